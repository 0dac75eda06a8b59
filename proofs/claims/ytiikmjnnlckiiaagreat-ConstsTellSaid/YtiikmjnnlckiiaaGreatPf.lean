/-
 dyad: Norm, Of, Sign, Neg, Shift, Log, Floor, Ceil.
-/
import Derived.Test.YtiikmjnnlckiiaaGreatPc
import Derived.Laws.Bits64b
import Derived.Lib.TrailingZeros
namespace Go.Proofs.YtiikmjnnlckiiaaGreat
section
set_option maxRecDepth 100000
set_option linter.unusedVariables false

/-- Which exponents count. -/
def rE (e : Int) : Bool := decide (-4000 ≤ e ∧ e ≤ 4000)
def cM (X e : Int) : Int := if rE e then X else 0
def cE (e : Int) : Int := if rE e then e else 0
theorem cE_in (e : Int) : -4000 ≤ cE e ∧ cE e ≤ 4000 := by
 unfold cE rE
 by_cases h : -4000 ≤ e ∧ e ≤ 4000
 ·rw [if_pos (decide_eq_true h)]; exact h
 ·rw [if_neg (by simpa using h)]; omega
theorem c_yes {X e : Int} (h : -4000 ≤ e ∧ e ≤ 4000) : cM X e = X ∧ cE e = e := by
 have : rE e = true := decide_eq_true h
 unfold cM cE; rw [this]; exact ⟨rfl, rfl⟩
theorem c_no {X e : Int} (h : ¬ (-4000 ≤ e ∧ e ≤ 4000)) : cM X e = 0 ∧ cE e = 0 := by
 have : rE e = false := decide_eq_false h
 unfold cM cE; rw [this]; exact ⟨rfl, rfl⟩
/-- What a count is limited to. -/
def li (n : Int) : Int := min (max n (-4000)) 4000
theorem li_in (n : Int) : -4000 ≤ li n ∧ li n ≤ 4000 := by unfold li; omega
end
end Go.Proofs.YtiikmjnnlckiiaaGreat
namespace Go.Proofs.YtiikmjnnlckiiaaGreat
section
set_option maxRecDepth 100000
open Go.RowKit
set_option linter.unusedVariables false

/-- Block g holds a dyad: a sign, the limbs' slice, an exponent. -/
def Dx (w : World) (g : Nat) (b : Bool) (A : Option Addr) (n c : Nat) (e : Int) : Prop := w.heap[g]? = some (.cells #[.bool b, .slice A n c, .int .i64 e] 75 (0, 0))
section
variable {w w' : World} {g n c B n' c' : Nat} {b : Bool} {A A' : Option Addr} {l : List Int} {e : Int}
theorem Dx.lt (h : Dx w g b A n c e) : g < w.heap.size := by
 rcases Nat.lt_or_ge g w.heap.size with hlt | hge
 ·exact hlt
 ·unfold Dx at h; rw [Array.getElem?_eq_none hge] at h; cases h
theorem Dx.c0 (h : Dx w g b A n c e) : w.cell? ⟨g, 0, none⟩ = some (.bool b) := by rw [cell_of_row w g 0 _ _ (0, 0) h]; rfl
theorem Dx.c1 (h : Dx w g b A n c e) : w.cell? ⟨g, 1, none⟩ = some (.slice A n c) := by rw [cell_of_row w g 1 _ _ (0, 0) h]; rfl
theorem Dx.c2 (h : Dx w g b A n c e) : w.cell? ⟨g, 2, none⟩ = some (.int .i64 e) := by rw [cell_of_row w g 2 _ _ (0, 0) h]; rfl
theorem Dx.fr (h : Dx w g b A n c e) (i : Nat) : w.frozen? ⟨g, i, none⟩ = false := by
 unfold Dx at h
 simp [World.frozen?, h]
theorem Dx.new (w : World) (b : Bool) (A : Option Addr) (n c : Nat) (e : Int) : Dx (w.alloc (.cells #[.bool b, .slice A n c, .int .i64 e] 75)) w.heap.size b A n c e := heap_alloc_new w _
theorem Dx.alloc (h : Dx w g b A n c e) (o : Obj) : Dx (w.alloc o) g b A n c e := (Below.heap_alloc w o g h.lt).trans h
theorem Dx.below {B : Nat} (h : Dx w g b A n c e) (hb : Below B w w') (hg : g < B) : Dx w' g b A n c e := (hb.block g hg).trans h
theorem Dx.keep (h : Dx w g b A n c e) (hb : Below w.heap.size w w') : Dx w' g b A n c e := h.below hb h.lt
instance Dx.mv {v w : World} : Mv (Dx v g b A n c e) v w (Dx w g b A n c e) := ⟨fun h hb => Dx.keep h hb⟩
theorem Dx.al {w : World} {g : Nat} {b : Bool} {A : Option Addr} {n : Nat} {c : Nat} {e : Int} (h : Dx w g b A n c e) : w.cell? ⟨g, 0, none⟩ = some (.bool b) ∧ w.frozen? ⟨g, 0, none⟩ = false ∧ w.cell? ⟨g, 1, none⟩ = some (.slice A n c) ∧ w.frozen? ⟨g, 1, none⟩ = false ∧ w.cell? ⟨g, 2, none⟩ = some (.int .i64 e) ∧ w.frozen? ⟨g, 2, none⟩ = false := ⟨h.c0, h.fr 0, h.c1, h.fr 1, h.c2, h.fr 2⟩
theorem Dx.far (h : Dx w g b A n c e) {p : Addr} (hp : g ≠ p.block) (u : Value) : Dx (w.setCell p u) g b A n c e := (Below.heap_setCell w p u g hp).trans h
end
section
variable {w w' : World} {g h B n c n' c' k j : Nat} {b b' : Bool} {A A' : Option Addr} {l : List Int} {e e' X : Int} {b2 : Bool} {A2 : Option Addr} {n2 c2 : Nat} {e2 : Int}
theorem Dx.put (x : Dx w g b A n c e) (b' : Bool) (A' : Option Addr) (n' c' : Nat) (e' : Int) : Dx (((w.setCell ⟨g, 0, none⟩ (.bool b')).setCell ⟨g, 1, none⟩ (.slice A' n' c')).setCell ⟨g, 2, none⟩ (.int .i64 e')) g b' A' n' c' e' := by
 unfold Dx at x ⊢
 simp [World.setCell, Array.getElem?_modify, x]
theorem put_belowD {w0 : World} (hb : Below B w0 w) (hg : B ≤ g) (u u' u2 : Value) : Below B w0 (((w.setCell ⟨g, 0, none⟩ u).setCell ⟨g, 1, none⟩ u').setCell ⟨g, 2, none⟩ u2) := ((hb.setCell hg _).setCell hg _).setCell hg _
theorem Rd.putD (hr : Rd w B A' n' c' l) (x : Dx w g b A n c e) (b2 : Bool) (A2 : Option Addr) (n2 c2 : Nat) (e2 : Int) : Rd (((w.setCell ⟨g, 0, none⟩ (.bool b2)).setCell ⟨g, 1, none⟩ (.slice A2 n2 c2)).setCell ⟨g, 2, none⟩ (.int .i64 e2)) B A' n' c' l := by
 have h0 := x.c0
 have h1 := x.c1
 have h2 := x.c2
 refine ⟨hr.1, hr.2.1, hr.2.2.1, hr.2.2.2.1, fun hn => ?_⟩
 obtain ⟨d, off, e, hd, hc⟩ := hr.at_ hn
 refine ⟨d, off, e, hd, fun k hk => ?_⟩
 have hck := hc k hk
 have e0 : (⟨d, off + k, none⟩ : Addr) ≠ ⟨g, 0, none⟩ := fun e => by rw [e, h0] at hck; cases hck
 have e1 : (⟨d, off + k, none⟩ : Addr) ≠ ⟨g, 1, none⟩ := fun e => by rw [e, h1] at hck; cases hck
 have e2 : (⟨d, off + k, none⟩ : Addr) ≠ ⟨g, 2, none⟩ := fun e => by rw [e, h2] at hck; cases hck
 rw [World.cell?_setCell_other _ _ _ _ e2.symm, World.cell?_setCell_other _ _ _ _ e1.symm, World.cell?_setCell_other _ _ _ _ e0.symm]
 exact hck
theorem Rd.sputD (hr : Rd w w.heap.size A n c l) (x : Dx w g b2 A2 n2 c2 e2) : Rd (((w.setCell ⟨g, 0, none⟩ (.bool b')).setCell ⟨g, 1, none⟩ (.slice A' n' c')).setCell ⟨g, 2, none⟩ (.int .i64 e')) (((w.setCell ⟨g, 0, none⟩ (.bool b')).setCell ⟨g, 1, none⟩ (.slice A' n' c')).setCell ⟨g, 2, none⟩ (.int .i64 e')).heap.size A n c l :=
 (hr.putD x _ _ _ _ _).more (by simp [World.setCell])
theorem Zr.putD (hr : Zr w b A n c X k) (x : Dx w g b2 A2 n2 c2 e2) : Zr (((w.setCell ⟨g, 0, none⟩ (.bool b')).setCell ⟨g, 1, none⟩ (.slice A' n' c')).setCell ⟨g, 2, none⟩ (.int .i64 e')) b A n c X k := by
 obtain ⟨l, h1, h2, h3⟩ := hr
 exact ⟨l, h1.sputD x, h2, h3⟩
theorem Dx.aside (x : Dx w h b A n c e) (hg : h ≠ g) : Dx ((w.setCell ⟨g, 0, none⟩ (.bool b')).setCell ⟨g, 1, none⟩ (.slice A' n' c')) h b A n c e := (x.far hg _).far hg _
theorem Bx.asideD (x : Bx w h b A n c) (hg : h ≠ g) : Bx (((w.setCell ⟨g, 0, none⟩ (.bool b')).setCell ⟨g, 1, none⟩ (.slice A' n' c')).setCell ⟨g, 2, none⟩ (.int .i64 e')) h b A n c := ((x.far hg _).far hg _).far hg _
end
section
variable {w w' : World} {g n c n' c' : Nat} {b b' : Bool} {A A' : Option Addr} {e e' : Int}
end
theorem limit_any (n : Int) (w : World) : Calls Tryz.prog 94 #[.int .i64 n] w fun e w' => e = .returned (.int .i64 (li n)) ∧ w = w' := by
 unfold li
 go_enter Tryz.func94, Tryz.ntmps94
 go_wp2
 all_goals go_ret
 all_goals exact ⟨ret_i64 (by omega), rfl⟩

/-- What read hands back: what the argument counts as. -/
def RePost (w : World) (X e : Int) (k : Nat) (en : Ending) (w' : World) : Prop := ∃ b A n c, en = .returned (.agg #[.bool b, .slice A n c, .int .i64 (cE e)]) ∧ Zr w' b A n c (cM X e) k ∧ Below w.heap.size w w'
end
end Go.Proofs.YtiikmjnnlckiiaaGreat
namespace Go.Proofs.YtiikmjnnlckiiaaGreat
section
set_option maxRecDepth 100000
open Go.RowKit
set_option linter.unusedVariables false

set_option maxRecDepth 100000 in
set_option maxHeartbeats 1000000 in
theorem read_any {b : Bool} {A : Option Addr} {n c : Nat} {X e : Int} {j : Nat} {w : World} (h : Zr w b A n c X j) :
  Calls Tryz.prog 92 #[.agg #[.bool b, .slice A n c, .int .i64 e]] w (RePost w X e j) := by
 by_cases hr : -4000 ≤ e ∧ e ≤ 4000
 ·obtain ⟨hM, hE⟩ := c_yes (X := X) hr
  have HM := Lib.hid hM; have HE := Lib.hid hE; clear hM hE
  have h1 : ¬ e < -4000 := by omega
  have h2 : ¬ 4000 < e := by omega
  go_enter Tryz.func92, Tryz.ntmps92
  go_wp2
  refine bodyPost_ret (v := .agg #[.bool b, .slice A n c, .int .i64 e]) (by simp [results, Tryz.results92, go_sem]) rfl ?_
  exact ⟨_, _, _, _, by rw [HE.out], by rw [HM.out]; exact h.keep (below_alloc2 _ _ _), below_alloc2 _ _ _⟩
 ·obtain ⟨hM, hE⟩ := c_no (X := X) hr
  have HM := Lib.hid hM; have HE := Lib.hid hE; clear hM hE
  have hfin : ∀ w' : World, Zr w' false none 0 0 (cM X e) j := fun w' => ⟨[], Rd.nil, by rw [HM.out]; rfl, Nat.zero_le _⟩
  have HFIN := Lib.hid hfin; clear hfin
  rcases (show e < -4000 ∨ (¬ e < -4000 ∧ 4000 < e) by omega) with h1 | ⟨h1, h2⟩
  ·skip
   go_enter Tryz.func92, Tryz.ntmps92
   go_wp2
   refine bodyPost_ret (v := .agg #[.bool false, .slice none 0 0, .int .i64 0]) (by simp [results, Tryz.results92, go_sem]) rfl ?_
   exact ⟨_, _, _, _, by rw [HE.out], HFIN.out _, below_alloc2 _ _ _⟩
  ·skip
   go_enter Tryz.func92, Tryz.ntmps92
   go_wp2
   refine bodyPost_ret (v := .agg #[.bool false, .slice none 0 0, .int .i64 0]) (by simp [results, Tryz.results92, go_sem]) rfl ?_
   exact ⟨_, _, _, _, by rw [HE.out], HFIN.out _, below_alloc2 _ _ _⟩
end
end Go.Proofs.YtiikmjnnlckiiaaGreat
namespace Go.Proofs.YtiikmjnnlckiiaaGreat
section
set_option maxRecDepth 100000
open Go.RowKit
set_option linter.unusedVariables false

end
end Go.Proofs.YtiikmjnnlckiiaaGreat
namespace Go.Proofs.YtiikmjnnlckiiaaGreat
section
set_option maxRecDepth 100000
open Go.RowKit
set_option linter.unusedVariables false

theorem limit_bel (n : Int) (w : World) : Calls Tryz.prog 94 #[.int .i64 n] w fun e w' => e = .returned (.int .i64 (li n)) ∧ Below w.heap.size w w' :=
 (limit_any n w).mono fun e w' ⟨h1, h2⟩ => ⟨h1, by rw [← h2]; exact Below.refl _ _⟩
/-- An integer times a power of two, rounded down. -/
def flI (X n : Int) : Int := if n < 0 then X / 2 ^ (-n).toNat else X * 2 ^ n.toNat
theorem wrap_in {n : Int} (h0 : -9223372036854775808 ≤ n) (h1 : n ≤ 9223372036854775807) : IntKind.i64.wrap n = n := IntWalk.i64_in _ ⟨h0, h1⟩
theorem sc_toNat {n : Int} (h0 : 0 ≤ n) (h1 : n ≤ 8192) : sc n = n.toNat := by unfold sc; omega

set_option maxRecDepth 100000 in
set_option maxHeartbeats 1000000 in
theorem floorShift_any {b : Bool} {A : Option Addr} {n c : Nat} {X : Int} {j : Nat} {w : World} (h : Zr w b A n c X j) (q : Int) (hq : -8000 ≤ q ∧ q ≤ 8000) (k : Nat) (hk : j + 128 ≤ k) (hj : k ≤ 1000000) :
  Calls Tryz.prog 93 #[.agg #[.bool b, .slice A n c], .int .i64 q] w (OutZ w (flI X q) k) := by
 by_cases hq0 : q < 0
 ·have hv : X / 2 ^ sc (-q) = flI X q := by unfold flI; rw [if_pos hq0, sc_toNat (by omega) (by omega)]
  have HV := Lib.hid hv; clear hv
  go_enter Tryz.func93, Tryz.ntmps93
  go_wp2_with fail
  have x_m : Bx (w.alloc (.cells #[.bool b, .slice A n c] 25)) (w.heap.size) b A n c := by have := Bx.new w b A n c; simpa using this
  replace x_m := x_m.alloc (.cells #[.bool false, .slice none 0 0] 25)
  have x_r : Bx ((w.alloc (.cells #[.bool b, .slice A n c] 25)).alloc (.cells #[.bool false, .slice none 0 0] 25)) (w.heap.size + 1) false none 0 0 := by have := Bx.new (w.alloc (.cells #[.bool b, .slice A n c] 25)) false none 0 0; simpa using this
  have hb : Below w.heap.size w ((w.alloc (.cells #[.bool b, .slice A n c] 25)).alloc (.cells #[.bool false, .slice none 0 0] 25)) := (Below.alloc (Below.alloc (Below.refl w.heap.size w) (by simp) (.cells #[.bool b, .slice A n c] 25)) (by simp) (.cells #[.bool false, .slice none 0 0] 25))
  generalize (w.alloc (.cells #[.bool b, .slice A n c] 25)).alloc (.cells #[.bool false, .slice none 0 0] 25) = v1 at *
  replace h := h.keep hb
  have q_m := x_m.al
  have q_r := x_r.al
  go_wp2_with fail
  with_reducible refine (ZShr_any h (-q) k (by omega) hj).mono ?_
  rintro e v2 ⟨A3, n3, c3, rfl, z3, hb1⟩
  obtain ⟨x_m, x_r, h⟩ := mv3 hb1 x_m x_r h
  replace hb := bthen hb hb1
  clear hb1
  replace q_m := x_m.al
  replace q_r := x_r.al
  rw [HV.out] at z3 ⊢
  go_wp2
  replace x_m := x_m.aside (b' := (ngB (flI X q))) (A' := A3) (n' := n3) (c' := c3) (g := w.heap.size + 1) (by omega)
  replace h := h.put (b' := (ngB (flI X q))) (A' := A3) (n' := n3) (c' := c3) x_r
  replace z3 := z3.put (b' := (ngB (flI X q))) (A' := A3) (n' := n3) (c' := c3) x_r
  replace hb := put_below (g := w.heap.size + 1) hb (by omega) (.bool (ngB (flI X q))) (.slice A3 n3 c3)
  replace x_r := x_r.put (ngB (flI X q)) A3 n3 c3
  clear q_m q_r
  generalize (v2.setCell ⟨w.heap.size + 1, 0, none⟩ (.bool (ngB (flI X q)))).setCell ⟨w.heap.size + 1, 1, none⟩ (.slice A3 n3 c3) = v3 at *
  have q_m := x_m.al
  have q_r := x_r.al
  refine bodyPost_ret (v := .agg #[.bool (ngB (flI X q)), .slice A3 n3 c3]) (by simp [results, Tryz.results93, go_sem, q_r]) rfl ?_
  exact ⟨_, _, _, rfl, z3, hb⟩
 ·have hv : X * 2 ^ sc q = flI X q := by unfold flI; rw [if_neg hq0, sc_toNat (by omega) (by omega)]
  have HV := Lib.hid hv; clear hv
  go_enter Tryz.func93, Tryz.ntmps93
  go_wp2_with fail
  have x_m : Bx (w.alloc (.cells #[.bool b, .slice A n c] 25)) (w.heap.size) b A n c := by have := Bx.new w b A n c; simpa using this
  replace x_m := x_m.alloc (.cells #[.bool false, .slice none 0 0] 25)
  have x_r : Bx ((w.alloc (.cells #[.bool b, .slice A n c] 25)).alloc (.cells #[.bool false, .slice none 0 0] 25)) (w.heap.size + 1) false none 0 0 := by have := Bx.new (w.alloc (.cells #[.bool b, .slice A n c] 25)) false none 0 0; simpa using this
  have hb : Below w.heap.size w ((w.alloc (.cells #[.bool b, .slice A n c] 25)).alloc (.cells #[.bool false, .slice none 0 0] 25)) := (Below.alloc (Below.alloc (Below.refl w.heap.size w) (by simp) (.cells #[.bool b, .slice A n c] 25)) (by simp) (.cells #[.bool false, .slice none 0 0] 25))
  generalize (w.alloc (.cells #[.bool b, .slice A n c] 25)).alloc (.cells #[.bool false, .slice none 0 0] 25) = v1 at *
  replace h := h.keep hb
  have q_m := x_m.al
  have q_r := x_r.al
  go_wp2_with fail
  with_reducible refine (ZShl_any h q k hk hj).mono ?_
  rintro e v2 ⟨A3, n3, c3, rfl, z3, hb1⟩
  obtain ⟨x_m, x_r, h⟩ := mv3 hb1 x_m x_r h
  replace hb := bthen hb hb1
  clear hb1
  replace q_m := x_m.al
  replace q_r := x_r.al
  rw [HV.out] at z3 ⊢
  go_wp2
  replace x_m := x_m.aside (b' := (ngB (flI X q))) (A' := A3) (n' := n3) (c' := c3) (g := w.heap.size + 1) (by omega)
  replace h := h.put (b' := (ngB (flI X q))) (A' := A3) (n' := n3) (c' := c3) x_r
  replace z3 := z3.put (b' := (ngB (flI X q))) (A' := A3) (n' := n3) (c' := c3) x_r
  replace hb := put_below (g := w.heap.size + 1) hb (by omega) (.bool (ngB (flI X q))) (.slice A3 n3 c3)
  replace x_r := x_r.put (ngB (flI X q)) A3 n3 c3
  clear q_m q_r
  generalize (v2.setCell ⟨w.heap.size + 1, 0, none⟩ (.bool (ngB (flI X q)))).setCell ⟨w.heap.size + 1, 1, none⟩ (.slice A3 n3 c3) = v3 at *
  have q_m := x_m.al
  have q_r := x_r.al
  refine bodyPost_ret (v := .agg #[.bool (ngB (flI X q)), .slice A3 n3 c3]) (by simp [results, Tryz.results93, go_sem, q_r]) rfl ?_
  exact ⟨_, _, _, rfl, z3, hb⟩

set_option maxRecDepth 100000 in
set_option maxHeartbeats 1000000 in
theorem DFloor_any {b : Bool} {A : Option Addr} {n c : Nat} {X e : Int} {j : Nat} {w : World} (h : Zr w b A n c X j) (q : Int) (k : Nat) (hk : j + 128 ≤ k) (hj : k ≤ 1000000) :
  Calls Tryz.prog 58 #[.agg #[.bool b, .slice A n c, .int .i64 e], .int .i64 q] w (OutZ w (flI (cM X e) (cE e + li q)) k) := by
 have hc := cE_in e
 have hl := li_in q
 have hwr : IntKind.i64.wrap (cE e + li q) = cE e + li q := wrap_in (by omega) (by omega)
 go_enter Tryz.func58, Tryz.ntmps58
 go_wp2_with fail
 have x_a : Dx (w.alloc (.cells #[.bool b, .slice A n c, .int .i64 e] 75)) (w.heap.size) b A n c e := by have := Dx.new w b A n c e; simpa using this
 replace x_a := x_a.alloc (.cells #[.bool false, .slice none 0 0] 25)
 have x_r : Bx ((w.alloc (.cells #[.bool b, .slice A n c, .int .i64 e] 75)).alloc (.cells #[.bool false, .slice none 0 0] 25)) (w.heap.size + 1) false none 0 0 := by have := Bx.new (w.alloc (.cells #[.bool b, .slice A n c, .int .i64 e] 75)) false none 0 0; simpa using this
 have hb : Below w.heap.size w ((w.alloc (.cells #[.bool b, .slice A n c, .int .i64 e] 75)).alloc (.cells #[.bool false, .slice none 0 0] 25)) := (Below.alloc (Below.alloc (Below.refl w.heap.size w) (by simp) (.cells #[.bool b, .slice A n c, .int .i64 e] 75)) (by simp) (.cells #[.bool false, .slice none 0 0] 25))
 generalize (w.alloc (.cells #[.bool b, .slice A n c, .int .i64 e] 75)).alloc (.cells #[.bool false, .slice none 0 0] 25) = v1 at *
 replace h := h.keep hb
 have q_a := x_a.al
 have q_r := x_r.al
 go_wp2_with fail
 with_reducible refine (read_any h).mono ?_
 rintro e v2 ⟨b1, A1, n1, c1, rfl, zc, hb1⟩
 obtain ⟨x_a, x_r, h⟩ := mv3 hb1 x_a x_r h
 replace hb := bthen hb hb1
 clear hb1
 replace q_a := x_a.al
 replace q_r := x_r.al
 clear h
 go_wp2_with fail
 replace x_r := x_r.asideD (b' := b1) (A' := A1) (n' := n1) (c' := c1) (e' := (cE e)) (g := w.heap.size) (by omega)
 replace zc := zc.putD (b' := b1) (A' := A1) (n' := n1) (c' := c1) (e' := (cE e)) x_a
 replace hb := put_belowD (g := w.heap.size) hb (by omega) (.bool b1) (.slice A1 n1 c1) (.int .i64 (cE e))
 replace x_a := x_a.put b1 A1 n1 c1 (cE e)
 clear q_a q_r
 generalize ((v2.setCell ⟨w.heap.size, 0, none⟩ (.bool b1)).setCell ⟨w.heap.size, 1, none⟩ (.slice A1 n1 c1)).setCell ⟨w.heap.size, 2, none⟩ (.int .i64 (cE e)) = v3 at *
 have q_a := x_a.al
 have q_r := x_r.al
 go_region_held3 (fun w' => w'.cell? ⟨w.heap.size, 0, none⟩ = some (.bool b1) ∧ w'.cell? ⟨w.heap.size, 1, none⟩ = some (.slice A1 n1 c1) ∧ w'.cell? ⟨w.heap.size, 2, none⟩ = some (.int .i64 (cE e)))
  (first | (with_reducible exact ⟨x_a.c0, x_a.c1, x_a.c2⟩) | (with_reducible exact ⟨(x_a.aside (by omega)).c0, (x_a.aside (by omega)).c1, (x_a.aside (by omega)).c2⟩) | (with_reducible exact ⟨((x_a.aside (by omega)).aside (by omega)).c0, ((x_a.aside (by omega)).aside (by omega)).c1, ((x_a.aside (by omega)).aside (by omega)).c2⟩) | (with_reducible exact ⟨(x_a.asideD (by omega)).c0, (x_a.asideD (by omega)).c1, (x_a.asideD (by omega)).c2⟩) | (with_reducible exact ⟨((x_a.asideD (by omega)).asideD (by omega)).c0, ((x_a.asideD (by omega)).asideD (by omega)).c1, ((x_a.asideD (by omega)).asideD (by omega)).c2⟩) | go_keep)
  (first | (go_at_call 94; (with_reducible refine (limit_bel q _).mono ?_); rintro e v4 ⟨rfl, hb1⟩; replace hb1 := undrew hb1; obtain ⟨x_a, x_r, zc⟩ := mv3 hb1 x_a x_r zc; replace hb := bthen hb hb1; clear hb1; replace q_a := x_a.al; replace q_r := x_r.al) | (go_at_call 93; (with_reducible refine (floorShift_any zc (cE e + li q) (by omega) k hk hj).mono ?_); rintro e v5 ⟨A3, n3, c3, rfl, z3, hb1⟩; obtain ⟨x_a, x_r, zc⟩ := mv3 hb1 x_a x_r zc; replace hb := bthen hb hb1; clear hb1; replace q_a := x_a.al; replace q_r := x_r.al))
 go_wp2
 replace x_a := x_a.aside (b' := (ngB (flI (cM X e) (cE e + li q)))) (A' := A3) (n' := n3) (c' := c3) (g := w.heap.size + 1) (by omega)
 replace zc := zc.put (b' := (ngB (flI (cM X e) (cE e + li q)))) (A' := A3) (n' := n3) (c' := c3) x_r
 replace z3 := z3.put (b' := (ngB (flI (cM X e) (cE e + li q)))) (A' := A3) (n' := n3) (c' := c3) x_r
 replace hb := put_below (g := w.heap.size + 1) hb (by omega) (.bool (ngB (flI (cM X e) (cE e + li q)))) (.slice A3 n3 c3)
 replace x_r := x_r.put (ngB (flI (cM X e) (cE e + li q))) A3 n3 c3
 clear q_a q_r
 generalize (v5.setCell ⟨w.heap.size + 1, 0, none⟩ (.bool (ngB (flI (cM X e) (cE e + li q))))).setCell ⟨w.heap.size + 1, 1, none⟩ (.slice A3 n3 c3) = v6 at *
 have q_a := x_a.al
 have q_r := x_r.al
 refine bodyPost_ret (v := .agg #[.bool (ngB (flI (cM X e) (cE e + li q))), .slice A3 n3 c3]) (by simp [results, Tryz.results58, go_sem, q_r]) rfl ?_
 exact ⟨_, _, _, rfl, z3, hb⟩

set_option maxRecDepth 100000 in
set_option maxHeartbeats 1000000 in
theorem DCeil_any {b : Bool} {A : Option Addr} {n c : Nat} {X e : Int} {j : Nat} {w : World} (h : Zr w b A n c X j) (q : Int) (k : Nat) (hk : j + 128 ≤ k) (hj : k ≤ 1000000) :
  Calls Tryz.prog 60 #[.agg #[.bool b, .slice A n c, .int .i64 e], .int .i64 q] w (OutZ w (-flI (-cM X e) (cE e + li q)) k) := by
 have hc := cE_in e
 have hl := li_in q
 have hwr : IntKind.i64.wrap (cE e + li q) = cE e + li q := wrap_in (by omega) (by omega)
 go_enter Tryz.func60, Tryz.ntmps60
 go_wp2_with fail
 have x_a : Dx (w.alloc (.cells #[.bool b, .slice A n c, .int .i64 e] 75)) (w.heap.size) b A n c e := by have := Dx.new w b A n c e; simpa using this
 replace x_a := x_a.alloc (.cells #[.bool false, .slice none 0 0] 25)
 have x_r : Bx ((w.alloc (.cells #[.bool b, .slice A n c, .int .i64 e] 75)).alloc (.cells #[.bool false, .slice none 0 0] 25)) (w.heap.size + 1) false none 0 0 := by have := Bx.new (w.alloc (.cells #[.bool b, .slice A n c, .int .i64 e] 75)) false none 0 0; simpa using this
 have hb : Below w.heap.size w ((w.alloc (.cells #[.bool b, .slice A n c, .int .i64 e] 75)).alloc (.cells #[.bool false, .slice none 0 0] 25)) := (Below.alloc (Below.alloc (Below.refl w.heap.size w) (by simp) (.cells #[.bool b, .slice A n c, .int .i64 e] 75)) (by simp) (.cells #[.bool false, .slice none 0 0] 25))
 generalize (w.alloc (.cells #[.bool b, .slice A n c, .int .i64 e] 75)).alloc (.cells #[.bool false, .slice none 0 0] 25) = v1 at *
 replace h := h.keep hb
 have q_a := x_a.al
 have q_r := x_r.al
 go_wp2_with fail
 with_reducible refine (read_any h).mono ?_
 rintro e v2 ⟨b1, A1, n1, c1, rfl, zc, hb1⟩
 obtain ⟨x_a, x_r, h⟩ := mv3 hb1 x_a x_r h
 replace hb := bthen hb hb1
 clear hb1
 replace q_a := x_a.al
 replace q_r := x_r.al
 clear h
 go_wp2_with fail
 replace x_r := x_r.asideD (b' := b1) (A' := A1) (n' := n1) (c' := c1) (e' := (cE e)) (g := w.heap.size) (by omega)
 replace zc := zc.putD (b' := b1) (A' := A1) (n' := n1) (c' := c1) (e' := (cE e)) x_a
 replace hb := put_belowD (g := w.heap.size) hb (by omega) (.bool b1) (.slice A1 n1 c1) (.int .i64 (cE e))
 replace x_a := x_a.put b1 A1 n1 c1 (cE e)
 clear q_a q_r
 generalize ((v2.setCell ⟨w.heap.size, 0, none⟩ (.bool b1)).setCell ⟨w.heap.size, 1, none⟩ (.slice A1 n1 c1)).setCell ⟨w.heap.size, 2, none⟩ (.int .i64 (cE e)) = v3 at *
 have q_a := x_a.al
 have q_r := x_r.al
 go_region_held3 (fun w' => w'.cell? ⟨w.heap.size, 0, none⟩ = some (.bool b1) ∧ w'.cell? ⟨w.heap.size, 1, none⟩ = some (.slice A1 n1 c1) ∧ w'.cell? ⟨w.heap.size, 2, none⟩ = some (.int .i64 (cE e)))
  (first | (with_reducible exact ⟨x_a.c0, x_a.c1, x_a.c2⟩) | (with_reducible exact ⟨(x_a.aside (by omega)).c0, (x_a.aside (by omega)).c1, (x_a.aside (by omega)).c2⟩) | (with_reducible exact ⟨((x_a.aside (by omega)).aside (by omega)).c0, ((x_a.aside (by omega)).aside (by omega)).c1, ((x_a.aside (by omega)).aside (by omega)).c2⟩) | (with_reducible exact ⟨(x_a.asideD (by omega)).c0, (x_a.asideD (by omega)).c1, (x_a.asideD (by omega)).c2⟩) | (with_reducible exact ⟨((x_a.asideD (by omega)).asideD (by omega)).c0, ((x_a.asideD (by omega)).asideD (by omega)).c1, ((x_a.asideD (by omega)).asideD (by omega)).c2⟩) | go_keep)
  (first | (go_at_call 95; (with_reducible refine (ZNeg_any zc.drw j (Nat.le_refl _)).mono ?_); rintro e v4 ⟨A2, n2, c2, rfl, z1, hb1⟩; replace hb1 := undrew hb1; obtain ⟨x_a, x_r, zc⟩ := mv3 hb1 x_a x_r zc; replace hb := bthen hb hb1; clear hb1; replace q_a := x_a.al; replace q_r := x_r.al) | (go_at_call 94; (with_reducible refine (limit_bel q _).mono ?_); rintro e v5 ⟨rfl, hb1⟩; obtain ⟨x_a, x_r, zc, z1⟩ := mv4 hb1 x_a x_r zc z1; replace hb := bthen hb hb1; clear hb1; replace q_a := x_a.al; replace q_r := x_r.al) | (go_at_call 93; (with_reducible refine (floorShift_any z1.zr (cE e + li q) (by omega) k hk hj).mono ?_); rintro e v6 ⟨A3, n3, c3, rfl, z3, hb1⟩; obtain ⟨x_a, x_r, zc, z1⟩ := mv4 hb1 x_a x_r zc z1; replace hb := bthen hb hb1; clear hb1; replace q_a := x_a.al; replace q_r := x_r.al) | (go_at_call 95; (with_reducible refine (ZNeg_any z3.zr k (Nat.le_refl _)).mono ?_); rintro e v7 ⟨A4, n4, c4, rfl, z4, hb1⟩; obtain ⟨x_a, x_r, zc, z1, z3⟩ := mv5 hb1 x_a x_r zc z1 z3; replace hb := bthen hb hb1; clear hb1; replace q_a := x_a.al; replace q_r := x_r.al))
 go_wp2
 replace x_a := x_a.aside (b' := (ngB (-flI (-cM X e) (cE e + li q)))) (A' := A4) (n' := n4) (c' := c4) (g := w.heap.size + 1) (by omega)
 replace zc := zc.put (b' := (ngB (-flI (-cM X e) (cE e + li q)))) (A' := A4) (n' := n4) (c' := c4) x_r
 replace z1 := z1.put (b' := (ngB (-flI (-cM X e) (cE e + li q)))) (A' := A4) (n' := n4) (c' := c4) x_r
 replace z3 := z3.put (b' := (ngB (-flI (-cM X e) (cE e + li q)))) (A' := A4) (n' := n4) (c' := c4) x_r
 replace z4 := z4.put (b' := (ngB (-flI (-cM X e) (cE e + li q)))) (A' := A4) (n' := n4) (c' := c4) x_r
 replace hb := put_below (g := w.heap.size + 1) hb (by omega) (.bool (ngB (-flI (-cM X e) (cE e + li q)))) (.slice A4 n4 c4)
 replace x_r := x_r.put (ngB (-flI (-cM X e) (cE e + li q))) A4 n4 c4
 clear q_a q_r
 generalize (v7.setCell ⟨w.heap.size + 1, 0, none⟩ (.bool (ngB (-flI (-cM X e) (cE e + li q))))).setCell ⟨w.heap.size + 1, 1, none⟩ (.slice A4 n4 c4) = v8 at *
 have q_a := x_a.al
 have q_r := x_r.al
 refine bodyPost_ret (v := .agg #[.bool (ngB (-flI (-cM X e) (cE e + li q))), .slice A4 n4 c4]) (by simp [results, Tryz.results60, go_sem, q_r]) rfl ?_
 exact ⟨_, _, _, rfl, z4, hb⟩
end
end Go.Proofs.YtiikmjnnlckiiaaGreat
