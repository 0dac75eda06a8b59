/-
  The document's answer for zed: DivMod by 0, and its arithmetic.
-/
import Derived.Test.YtiikmjnnlckiiaaPe
import Derived.Test.YtiikmjnnlckiiaaPc
namespace Go.Proofs.Ytiikmjnnlckiiaa
section
set_option maxRecDepth 100000
open Go.RowKit
set_option linter.unusedVariables false

/-- Digits of the quotient from place j on. -/
def DvInv (D : List Int) (V j : Nat) (Q : List Int) : Prop := Q.length = D.length ∧ Lim Hb Q ∧ vl Hb (Q.drop j) = vl Hb (D.drop j) / V
theorem DvInv.start {D Q : List Int} {V j : Nat} (h1 : Q.length = D.length) (h2 : Lim Hb Q) (hj : D.length ≤ j) : DvInv D V j Q :=
  ⟨h1, h2, by rw [List.drop_eq_nil_of_le (by omega), List.drop_eq_nil_of_le hj]; simp [vl]⟩
theorem DvInv.step {D Q : List Int} {V j X : Nat} (hV : 0 < V) (hD : Lim Hb D) (h : DvInv D V (j + 1) Q) (hj : j < D.length) (hX : D[j].toNat + Hb * (vl Hb (D.drop (j + 1)) % V) = X) :
    DvInv D V j (Q.set j ((X / V : Nat) : Int)) ∧ X % V = vl Hb (D.drop j) % V ∧ X / V < Hb ∧ X < Hb * V := by
  obtain ⟨h1, h2, h4⟩ := h
  have hx := dig_lt (hD.get hj)
  have hq := vl_drop_step Hb D j hj
  have h5 : D[j].toNat < Hb := by rw [Hb_eq]; omega
  generalize D[j].toNat = x at *
  generalize vl Hb (D.drop (j + 1)) = R at *
  have hm := Nat.mod_lt R hV
  have hxb : X < Hb * V := by
    have : Hb * (R % V + 1) ≤ Hb * V := Nat.mul_le_mul_left _ hm
    rw [Nat.mul_add, Nat.mul_one] at this
    omega
  have hdq := Nat.mod_add_div R V
  have htot : x + Hb * R = X + V * (Hb * (R / V)) := by
    have e5 : Hb * R = Hb * (R % V) + Hb * (V * (R / V)) := by rw [← Nat.mul_add, hdq]
    rw [e5, Nat.mul_left_comm Hb V]
    omega
  have hlt : X / V < Hb := (Nat.div_lt_iff_lt_mul hV).2 hxb
  refine ⟨⟨by simpa using h1, h2.set j ⟨Int.natCast_nonneg _, Int.ofNat_lt.2 hlt⟩, ?_⟩, ?_, hlt, hxb⟩
  · rw [vl_drop_step Hb _ j (by simpa [h1] using hj), List.getElem_set_self, Int.toNat_natCast, List.drop_set_of_lt (by omega), h4, hq, htot, Nat.add_mul_div_left _ _ hV]
  · rw [hq, htot, Nat.add_mul_mod_self_left]
def DvRel (w : World) (g : Nat) (D : List Int) (V j : Nat) (wr : World) : Prop := ∃ Q, DvInv D V j Q ∧ Bk wr g Q ∧ Below w.heap.size w wr
def DoRel (w : World) (g : Nat) (D : List Int) (V : Nat) (yv : Value) (j : Nat) (wr : World) : Prop := yv = .int .u64 ((vl Hb (D.drop j) % V : Nat) : Int) ∧ DvRel w g D V j wr

end
end Go.Proofs.Ytiikmjnnlckiiaa
namespace Go.Proofs.Ytiikmjnnlckiiaa
section
set_option maxRecDepth 100000
open Go.RowKit
set_option linter.unusedVariables false

/-- Reading something stays if another block is written. -/
theorem Rd.far {w : World} {B n c g j : Nat} {A : Option Addr} {l : List Int} (h : Rd w B A n c l) (hA : ∀ a, A = some a → a.block ≠ g) (v : Value) : Rd (w.setCell ⟨g, j, none⟩ v) B A n c l := by
  refine ⟨h.len, h.cap, h.big, h.lim, fun hn => ?_⟩
  obtain ⟨b, off, rfl, hb, hc⟩ := h.at_ hn
  refine ⟨b, off, rfl, hb, fun k hk => ?_⟩
  rw [← hc k hk]
  exact World.cell?_setCell_far _ _ _ _ (fun e => hA _ rfl e.symm)
/-- One halving: is the middle too much? -/
theorem half_cmp {M X k : Nat} (hM : 0 < M) : cmpI (M * k) X ≤ 0 ↔ k ≤ X / M := by
  rw [Nat.le_div_iff_mul_le hM, Nat.mul_comm k M]
  unfold cmpI
  split
  · omega
  · split <;> omega
end
end Go.Proofs.Ytiikmjnnlckiiaa
namespace Go.Proofs.Ytiikmjnnlckiiaa
section
set_option maxRecDepth 100000
open Go.RowKit
set_option linter.unusedVariables false

/-- The rest, read from other blocks than the quotient's, and the quotient so far. -/
def DmRel (w : World) (g : Nat) (D : List Int) (M : Nat) (rv : Value) (j : Nat) (wr : World) : Prop :=
  ∃ A n c, rv = .slice A n c ∧ Rd wr wr.heap.size A n c (dg Hb (vl Hb (D.drop j) % M)) ∧ n ≤ 4000000 ∧ DvRel w g D M j wr

end
end Go.Proofs.Ytiikmjnnlckiiaa
namespace Go.Proofs.Ytiikmjnnlckiiaa
section
set_option maxRecDepth 100000
open Go.RowKit
set_option linter.unusedVariables false

end
end Go.Proofs.Ytiikmjnnlckiiaa
namespace Go.Proofs.Ytiikmjnnlckiiaa
section
set_option maxRecDepth 100000
open Go.RowKit
set_option linter.unusedVariables false

def GrRel (w : World) (G : Nat) (av bv : Value) (N M : Nat) (wr : World) : Prop :=
  ∃ A n c A2 n2 c2, av = .slice A n c ∧ bv = .slice A2 n2 c2 ∧ Rd wr wr.heap.size A n c (dg Wd N) ∧ Rd wr wr.heap.size A2 n2 c2 (dg Wd M) ∧ Nat.gcd N M = G ∧ n ≤ 1000000 ∧ n2 ≤ 1000000 ∧ Below w.heap.size w wr

end
end Go.Proofs.Ytiikmjnnlckiiaa
namespace Go.Proofs.Ytiikmjnnlckiiaa
section
set_option maxRecDepth 100000
open Go.RowKit
set_option linter.unusedVariables false

theorem flip_true (A : Option Addr) (n c : Nat) (w : World) :
    Calls Try.prog 19 #[.agg #[.bool true, .slice A n c]] w fun e w' => e = .returned (.agg #[.bool false, .slice A n c]) ∧ Below w.heap.size w w' := flip_any true A n c w
theorem Zr.flipt {w : World} {A : Option Addr} {n c k : Nat} {X : Int} (h : Zr w true A n c X k) : Zr w false A n c (-X) k := h.flip

set_option maxRecDepth 100000 in
set_option maxHeartbeats 2000000 in
theorem pd_true (b : Bool) (A A2 : Option Addr) (n c n2 c2 : Nat) (w : World) :
    Calls Try.prog 99 #[.agg #[.bool b, .slice A n c], .agg #[.bool true, .slice A2 n2 c2]] w fun e w' => e = .returned (.tuple #[.agg #[.bool (!b), .slice A n c], .agg #[.bool false, .slice A2 n2 c2]]) ∧ Below w.heap.size w w' := by
  go_enter Try.func99, Try.ntmps99
  go_wp2_with fail
  obtain ⟨hb, x_a, x_b, x_p, x_q⟩ := box4 w b A n c true A2 n2 c2 false none 0 0 false none 0 0
  generalize (((w.alloc (.cells #[.bool b, .slice A n c] 25)).alloc (.cells #[.bool true, .slice A2 n2 c2] 25)).alloc (.cells #[.bool false, .slice none 0 0] 25)).alloc (.cells #[.bool false, .slice none 0 0] 25) = v1 at *
  have q_a := x_a.al
  have q_b := x_b.al
  have q_p := x_p.al
  have q_q := x_q.al
  go_wp2_with fail
  go_region_held3 (fun w' => w'.cell? ⟨w.heap.size, 0, none⟩ = some (.bool b) ∧ w'.cell? ⟨w.heap.size, 1, none⟩ = some (.slice A n c) ∧ w'.cell? ⟨w.heap.size + 1, 0, none⟩ = some (.bool true) ∧ w'.cell? ⟨w.heap.size + 1, 1, none⟩ = some (.slice A2 n2 c2))
    (first | (with_reducible exact ⟨x_a.c0, x_a.c1, x_b.c0, x_b.c1⟩) | (with_reducible exact ⟨(x_a.aside (by omega)).c0, (x_a.aside (by omega)).c1, (x_b.aside (by omega)).c0, (x_b.aside (by omega)).c1⟩) | (with_reducible exact ⟨((x_a.aside (by omega)).aside (by omega)).c0, ((x_a.aside (by omega)).aside (by omega)).c1, ((x_b.aside (by omega)).aside (by omega)).c0, ((x_b.aside (by omega)).aside (by omega)).c1⟩) | go_keep)
    (first | (go_at_call 19; (with_reducible refine (flip_any b A n c _).mono ?_); rintro e v2 ⟨rfl, hb1⟩; replace hb1 := undrew hb1; obtain ⟨x_a, x_b, x_p, x_q⟩ := mv4 hb1 x_a x_b x_p x_q; replace hb := bthen hb hb1; clear hb1; replace q_a := x_a.al; replace q_b := x_b.al; replace q_p := x_p.al; replace q_q := x_q.al) | (go_at_call 19; (with_reducible refine (flip_true A2 n2 c2 _).mono ?_); rintro e v3 ⟨rfl, hb1⟩; obtain ⟨x_a, x_b, x_p, x_q⟩ := mv4 hb1 x_a x_b x_p x_q; replace hb := bthen hb hb1; clear hb1; replace q_a := x_a.al; replace q_b := x_b.al; replace q_p := x_p.al; replace q_q := x_q.al))
  go_wp2
  replace x_a := x_a.aside (b' := (!b)) (A' := A) (n' := n) (c' := c) (g := w.heap.size + 1 + 1) (by omega)
  replace x_b := x_b.aside (b' := (!b)) (A' := A) (n' := n) (c' := c) (g := w.heap.size + 1 + 1) (by omega)
  replace x_q := x_q.aside (b' := (!b)) (A' := A) (n' := n) (c' := c) (g := w.heap.size + 1 + 1) (by omega)
  replace hb := put_below (g := w.heap.size + 1 + 1) hb (by omega) (.bool (!b)) (.slice A n c)
  replace x_p := x_p.put (!b) A n c
  clear q_a q_b q_p q_q
  generalize (v3.setCell ⟨w.heap.size + 1 + 1, 0, none⟩ (.bool (!b))).setCell ⟨w.heap.size + 1 + 1, 1, none⟩ (.slice A n c) = v4 at *
  have q_a := x_a.al
  have q_b := x_b.al
  have q_p := x_p.al
  have q_q := x_q.al
  replace x_a := x_a.aside (b' := false) (A' := A2) (n' := n2) (c' := c2) (g := w.heap.size + 1 + 1 + 1) (by omega)
  replace x_b := x_b.aside (b' := false) (A' := A2) (n' := n2) (c' := c2) (g := w.heap.size + 1 + 1 + 1) (by omega)
  replace x_p := x_p.aside (b' := false) (A' := A2) (n' := n2) (c' := c2) (g := w.heap.size + 1 + 1 + 1) (by omega)
  replace hb := put_below (g := w.heap.size + 1 + 1 + 1) hb (by omega) (.bool false) (.slice A2 n2 c2)
  replace x_q := x_q.put false A2 n2 c2
  clear q_a q_b q_p q_q
  generalize (v4.setCell ⟨w.heap.size + 1 + 1 + 1, 0, none⟩ (.bool false)).setCell ⟨w.heap.size + 1 + 1 + 1, 1, none⟩ (.slice A2 n2 c2) = v5 at *
  have q_a := x_a.al
  have q_b := x_b.al
  have q_p := x_p.al
  have q_q := x_q.al
  refine bodyPost_ret (v := .tuple #[.agg #[.bool (!b), .slice A n c], .agg #[.bool false, .slice A2 n2 c2]]) (by simp [results, Try.results99, go_sem, q_p, q_q]) rfl ?_
  exact ⟨rfl, hb⟩

set_option maxRecDepth 100000 in
set_option maxHeartbeats 2000000 in
theorem pd_false (b : Bool) (A A2 : Option Addr) (n c n2 c2 : Nat) (w : World) :
    Calls Try.prog 99 #[.agg #[.bool b, .slice A n c], .agg #[.bool false, .slice A2 n2 c2]] w fun e w' => e = .returned (.tuple #[.agg #[.bool b, .slice A n c], .agg #[.bool false, .slice A2 n2 c2]]) ∧ Below w.heap.size w w' := by
  go_enter Try.func99, Try.ntmps99
  go_wp2_with fail
  obtain ⟨hb, x_a, x_b, x_p, x_q⟩ := box4 w b A n c false A2 n2 c2 false none 0 0 false none 0 0
  generalize (((w.alloc (.cells #[.bool b, .slice A n c] 25)).alloc (.cells #[.bool false, .slice A2 n2 c2] 25)).alloc (.cells #[.bool false, .slice none 0 0] 25)).alloc (.cells #[.bool false, .slice none 0 0] 25) = v1 at *
  have q_a := x_a.al
  have q_b := x_b.al
  have q_p := x_p.al
  have q_q := x_q.al
  go_wp2_with fail
  go_region_held3 (fun w' => w'.cell? ⟨w.heap.size, 0, none⟩ = some (.bool b) ∧ w'.cell? ⟨w.heap.size, 1, none⟩ = some (.slice A n c) ∧ w'.cell? ⟨w.heap.size + 1, 0, none⟩ = some (.bool false) ∧ w'.cell? ⟨w.heap.size + 1, 1, none⟩ = some (.slice A2 n2 c2))
    (first | (with_reducible exact ⟨x_a.drew.c0, x_a.drew.c1, x_b.drew.c0, x_b.drew.c1⟩) | (with_reducible exact ⟨(x_a.aside (by omega)).drew.c0, (x_a.aside (by omega)).drew.c1, (x_b.aside (by omega)).drew.c0, (x_b.aside (by omega)).drew.c1⟩) | (with_reducible exact ⟨((x_a.aside (by omega)).aside (by omega)).drew.c0, ((x_a.aside (by omega)).aside (by omega)).drew.c1, ((x_b.aside (by omega)).aside (by omega)).drew.c0, ((x_b.aside (by omega)).aside (by omega)).drew.c1⟩) | go_keep)
    (first | fail)
  skip
  replace x_a := x_a.aside (b' := b) (A' := A) (n' := n) (c' := c) (g := w.heap.size + 1 + 1) (by omega)
  replace x_b := x_b.aside (b' := b) (A' := A) (n' := n) (c' := c) (g := w.heap.size + 1 + 1) (by omega)
  replace x_q := x_q.aside (b' := b) (A' := A) (n' := n) (c' := c) (g := w.heap.size + 1 + 1) (by omega)
  replace hb := put_below (g := w.heap.size + 1 + 1) hb (by omega) (.bool b) (.slice A n c)
  replace x_p := x_p.put b A n c
  clear q_a q_b q_p q_q
  generalize (v1.setCell ⟨w.heap.size + 1 + 1, 0, none⟩ (.bool b)).setCell ⟨w.heap.size + 1 + 1, 1, none⟩ (.slice A n c) = v2 at *
  have q_a := x_a.al
  have q_b := x_b.al
  have q_p := x_p.al
  have q_q := x_q.al
  replace x_a := x_a.aside (b' := false) (A' := A2) (n' := n2) (c' := c2) (g := w.heap.size + 1 + 1 + 1) (by omega)
  replace x_b := x_b.aside (b' := false) (A' := A2) (n' := n2) (c' := c2) (g := w.heap.size + 1 + 1 + 1) (by omega)
  replace x_p := x_p.aside (b' := false) (A' := A2) (n' := n2) (c' := c2) (g := w.heap.size + 1 + 1 + 1) (by omega)
  replace hb := put_below (g := w.heap.size + 1 + 1 + 1) hb (by omega) (.bool false) (.slice A2 n2 c2)
  replace x_q := x_q.put false A2 n2 c2
  clear q_a q_b q_p q_q
  generalize (v2.setCell ⟨w.heap.size + 1 + 1 + 1, 0, none⟩ (.bool false)).setCell ⟨w.heap.size + 1 + 1 + 1, 1, none⟩ (.slice A2 n2 c2) = v3 at *
  have q_a := x_a.al
  have q_b := x_b.al
  have q_p := x_p.al
  have q_q := x_q.al
  replace x_a := x_a.drew
  replace x_b := x_b.drew
  replace x_p := x_p.drew
  replace x_q := x_q.drew
  replace hb := below_drew hb
  clear q_a q_b q_p q_q
  generalize v3.drew = v4 at *
  have q_a := x_a.al
  have q_b := x_b.al
  have q_p := x_p.al
  have q_q := x_q.al
  go_wp2
  refine bodyPost_ret (v := .tuple #[.agg #[.bool b, .slice A n c], .agg #[.bool false, .slice A2 n2 c2]]) (by simp [results, Try.results99, go_sem, q_p, q_q]) rfl ?_
  exact ⟨rfl, hb⟩
end
end Go.Proofs.Ytiikmjnnlckiiaa
namespace Go.Proofs.Ytiikmjnnlckiiaa
section
set_option maxRecDepth 100000
open Go.RowKit
set_option linter.unusedVariables false

/-- Nearest, the greater one of two, of a divisor above 0. -/
def rdQ (X Y : Int) : Int := if Y ≤ X % Y + X % Y then X / Y + 1 else X / Y
/-- Upwards, of a divisor above 0. -/
def upQ (X Y : Int) : Int := if 0 < X % Y then X / Y + 1 else X / Y
def roundI (X Y : Int) : Int := if Y < 0 then rdQ (-X) (-Y) else rdQ X Y
def upI (X Y : Int) : Int := if Y < 0 then upQ (-X) (-Y) else upQ X Y
def RdPost (w : World) (Z : Int) (k : Nat) (e : Ending) (w' : World) : Prop := ∃ A n c, e = .returned (.tuple #[.agg #[.bool (ngB Z), .slice A n c], .bool true]) ∧ Zn w' A n c Z k ∧ Below w.heap.size w w'

end
end Go.Proofs.Ytiikmjnnlckiiaa
namespace Go.Proofs.Ytiikmjnnlckiiaa
section
set_option maxRecDepth 100000
open Go.RowKit
set_option linter.unusedVariables false

theorem Zn.rd {w : World} {A : Option Addr} {n c k : Nat} {X : Int} (h : Zn w A n c X k) : Rd w w.heap.size A n c (dg Wd X.natAbs) := h.1
theorem Zn.lek {w : World} {A : Option Addr} {n c k : Nat} {X : Int} (h : Zn w A n c X k) : n ≤ k := h.2
theorem rdm_plain {X Y : Int} (hY : Y ≠ 0) (h : ngB (zi (ngB X) (X.natAbs % Y.natAbs)) = false) : X / Y = zi (!(ngB X == ngB Y)) (X.natAbs / Y.natAbs) ∧ X % Y = zi (ngB X) (X.natAbs % Y.natAbs) := by
  have hM : 0 < Y.natAbs := by omega
  have hc : ngB X = false ∨ X.natAbs % Y.natAbs = 0 := by
    cases hx : ngB X
    · exact .inl rfl
    · right
      rw [hx] at h
      rcases Nat.eq_zero_or_pos (X.natAbs % Y.natAbs) with h0 | h0
      · exact h0
      · rw [ngB_true h0] at h; cases h
  have := dm_plain (b := ngB X) (b2 := ngB Y) hM hc
  rw [zi_ngB, zi_ngB] at this
  refine ⟨this.1, this.2.trans ?_⟩
  rcases hc with hc | hc
  · rw [hc]
  · rw [hc]; unfold zi; split <;> simp
theorem rdm_more {X Y : Int} (hY : Y ≠ 0) (h : ngB (zi (ngB X) (X.natAbs % Y.natAbs)) = true) : ngB X = true ∧ X % Y = zi (ngB X) (X.natAbs % Y.natAbs) + (Y.natAbs : Int) ∧
    (ngB Y = true → X / Y = zi (!(ngB X == ngB Y)) (X.natAbs / Y.natAbs) + 1) ∧ (ngB Y = false → X / Y = zi (!(ngB X == ngB Y)) (X.natAbs / Y.natAbs) - 1) := by
  have hM : 0 < Y.natAbs := by omega
  have hx : ngB X = true := by
    cases hx : ngB X
    · rw [hx, ngB_false] at h; cases h
    · rfl
  have h0 : 0 < X.natAbs % Y.natAbs := by
    rcases Nat.eq_zero_or_pos (X.natAbs % Y.natAbs) with h0 | h0
    · rw [h0, ngB_zero] at h; cases h
    · exact h0
  have := dm_more (b2 := ngB Y) (N := X.natAbs) hM h0
  rw [← hx, zi_ngB, zi_ngB] at this
  have hlt := Nat.mod_lt X.natAbs hM
  refine ⟨hx, this.2.trans ?_, fun hy => this.1.trans ?_, fun hy => this.1.trans ?_⟩
  · rw [hx, zi_true, zi_false]; omega
  · rw [hx, hy]; show zi false _ = zi false _ + 1; rw [zi_false, zi_false]; omega
  · rw [hx, hy]; show zi true _ = zi true _ - 1; rw [zi_true, zi_true]; omega

end
end Go.Proofs.Ytiikmjnnlckiiaa
