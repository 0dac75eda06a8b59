/-
  Dyads as values: an integer and an exponent, boxed in memory; the table of the library; TrailingZeros64, read, limit.
-/
import Derived.Test.YtcoidcbbdibnaaaDoorZmul
import Derived.Test.YtcoidcbbdibnaaaDoorZshr
import Derived.Test.YtcoidcbbdibnaaaDoorDmath
import Derived.Laws.Bits64b
import Derived.Lib.TrailingZeros
namespace Go.Proofs.YtcoidcbbdibnaaaDoor
open Go.RowKit
set_option linter.unusedVariables false

/-- Block g holds a dyad: a sign, the limbs' slice, an exponent. -/
def Dx (w : World) (g : Nat) (b : Bool) (A : Option Addr) (n c : Nat) (e : Int) : Prop := w.heap[g]? = some (.cells #[.bool b, .slice A n c, .int .i64 e] 26 (0, 0))
section
variable {w w' : World} {g n c B n' c' : Nat} {b : Bool} {A A' : Option Addr} {l : List Int} {e : Int}
theorem Dx.lt (h : Dx w g b A n c e) : g < w.heap.size := by
  rcases Nat.lt_or_ge g w.heap.size with hlt | hge
  · exact hlt
  · unfold Dx at h; rw [Array.getElem?_eq_none hge] at h; cases h
theorem Dx.c0 (h : Dx w g b A n c e) : w.cell? ⟨g, 0, none⟩ = some (.bool b) := by rw [cell_of_row w g 0 _ _ (0, 0) h]; rfl
theorem Dx.c1 (h : Dx w g b A n c e) : w.cell? ⟨g, 1, none⟩ = some (.slice A n c) := by rw [cell_of_row w g 1 _ _ (0, 0) h]; rfl
theorem Dx.c2 (h : Dx w g b A n c e) : w.cell? ⟨g, 2, none⟩ = some (.int .i64 e) := by rw [cell_of_row w g 2 _ _ (0, 0) h]; rfl
theorem Dx.fr (h : Dx w g b A n c e) (i : Nat) : w.frozen? ⟨g, i, none⟩ = false := by
  unfold Dx at h
  simp [World.frozen?, h]
theorem Dx.new (w : World) (b : Bool) (A : Option Addr) (n c : Nat) (e : Int) : Dx (w.alloc (.cells #[.bool b, .slice A n c, .int .i64 e] 26)) w.heap.size b A n c e := heap_alloc_new w _
theorem Dx.alloc (h : Dx w g b A n c e) (o : Obj) : Dx (w.alloc o) g b A n c e := (Below.heap_alloc w o g h.lt).trans h
theorem Dx.drew (h : Dx w g b A n c e) : Dx w.drew g b A n c e := h
theorem Dx.below {B : Nat} (h : Dx w g b A n c e) (hb : Below B w w') (hg : g < B) : Dx w' g b A n c e := (hb.block g hg).trans h
theorem Dx.keep (h : Dx w g b A n c e) (hb : Below w.heap.size w w') : Dx w' g b A n c e := h.below hb h.lt
theorem Dx.far (h : Dx w g b A n c e) {p : Addr} (hp : g ≠ p.block) (u : Value) : Dx (w.setCell p u) g b A n c e := (Below.heap_setCell w p u g hp).trans h
theorem Dx.by_ {k : Nat} (h : Dx w g b A n c e) (hg : w.grownBy w' (some k)) (hne : g ≠ k) : Dx w' g b A n c e := (hg.block g h.lt (fun e => by injection e with e; exact hne e)).trans h
end
/-- A world in which a dyad was laid into block g. -/
abbrev putD (w : World) (g : Nat) (b : Bool) (A : Option Addr) (n c : Nat) (e : Int) : World := ((w.setCell ⟨g, 0, none⟩ (.bool b)).setCell ⟨g, 1, none⟩ (.slice A n c)).setCell ⟨g, 2, none⟩ (.int .i64 e)
section
variable {w w' : World} {g h B n c n' c' k j : Nat} {b b' : Bool} {A A' : Option Addr} {l : List Int} {e e' X : Int} {b2 : Bool} {A2 : Option Addr} {n2 c2 : Nat} {e2 : Int}
theorem Dx.put (x : Dx w g b A n c e) (b' : Bool) (A' : Option Addr) (n' c' : Nat) (e' : Int) : Dx (((w.setCell ⟨g, 0, none⟩ (.bool b')).setCell ⟨g, 1, none⟩ (.slice A' n' c')).setCell ⟨g, 2, none⟩ (.int .i64 e')) g b' A' n' c' e' := by
  unfold Dx at x ⊢
  simp [World.setCell, Array.getElem?_modify, x]
theorem put_belowD {w0 : World} (hb : Below B w0 w) (hg : B ≤ g) (u u' u2 : Value) : Below B w0 (((w.setCell ⟨g, 0, none⟩ u).setCell ⟨g, 1, none⟩ u').setCell ⟨g, 2, none⟩ u2) := ((hb.setCell hg _).setCell hg _).setCell hg _
theorem Rd.putD (hr : Rd w B A' n' c' l) (x : Dx w g b A n c e) (b2 : Bool) (A2 : Option Addr) (n2 c2 : Nat) (e2 : Int) : Rd (((w.setCell ⟨g, 0, none⟩ (.bool b2)).setCell ⟨g, 1, none⟩ (.slice A2 n2 c2)).setCell ⟨g, 2, none⟩ (.int .i64 e2)) B A' n' c' l := by
  have h0 := x.c0
  have h1 := x.c1
  have h2 := x.c2
  refine ⟨hr.1, hr.2.1, hr.2.2.1, hr.2.2.2.1, fun hn => ?_⟩
  obtain ⟨d, off, e, hd, hc⟩ := hr.at_ hn
  refine ⟨d, off, e, hd, fun k hk => ?_⟩
  have hck := hc k hk
  have e0 : (⟨d, off + k, none⟩ : Addr) ≠ ⟨g, 0, none⟩ := fun e => by rw [e, h0] at hck; cases hck
  have e1 : (⟨d, off + k, none⟩ : Addr) ≠ ⟨g, 1, none⟩ := fun e => by rw [e, h1] at hck; cases hck
  have e2 : (⟨d, off + k, none⟩ : Addr) ≠ ⟨g, 2, none⟩ := fun e => by rw [e, h2] at hck; cases hck
  rw [World.cell?_setCell_other _ _ _ _ e2.symm, World.cell?_setCell_other _ _ _ _ e1.symm, World.cell?_setCell_other _ _ _ _ e0.symm]
  exact hck
theorem Rd.sputD (hr : Rd w w.heap.size A n c l) (x : Dx w g b2 A2 n2 c2 e2) : Rd (((w.setCell ⟨g, 0, none⟩ (.bool b')).setCell ⟨g, 1, none⟩ (.slice A' n' c')).setCell ⟨g, 2, none⟩ (.int .i64 e')) (((w.setCell ⟨g, 0, none⟩ (.bool b')).setCell ⟨g, 1, none⟩ (.slice A' n' c')).setCell ⟨g, 2, none⟩ (.int .i64 e')).heap.size A n c l :=
  (hr.putD x _ _ _ _ _).more (by simp [World.setCell])
theorem Zr.putD (hr : Zr w b A n c X k) (x : Dx w g b2 A2 n2 c2 e2) : Zr (((w.setCell ⟨g, 0, none⟩ (.bool b')).setCell ⟨g, 1, none⟩ (.slice A' n' c')).setCell ⟨g, 2, none⟩ (.int .i64 e')) b A n c X k := by
  obtain ⟨l, h1, h2, h3⟩ := hr
  exact ⟨l, h1.sputD x, h2, h3⟩
theorem Zn.putD (hr : Zn w A n c X k) (x : Dx w g b2 A2 n2 c2 e2) : Zn (((w.setCell ⟨g, 0, none⟩ (.bool b')).setCell ⟨g, 1, none⟩ (.slice A' n' c')).setCell ⟨g, 2, none⟩ (.int .i64 e')) A n c X k :=
  ⟨hr.1.sputD x, hr.2⟩
theorem Dx.aside (x : Dx w h b A n c e) (hg : h ≠ g) : Dx ((w.setCell ⟨g, 0, none⟩ (.bool b')).setCell ⟨g, 1, none⟩ (.slice A' n' c')) h b A n c e := (x.far hg _).far hg _
theorem Dx.asideD (x : Dx w h b A n c e) (hg : h ≠ g) : Dx (((w.setCell ⟨g, 0, none⟩ (.bool b')).setCell ⟨g, 1, none⟩ (.slice A' n' c')).setCell ⟨g, 2, none⟩ (.int .i64 e')) h b A n c e := ((x.far hg _).far hg _).far hg _
theorem Bx.asideD (x : Bx w h b A n c) (hg : h ≠ g) : Bx (((w.setCell ⟨g, 0, none⟩ (.bool b')).setCell ⟨g, 1, none⟩ (.slice A' n' c')).setCell ⟨g, 2, none⟩ (.int .i64 e')) h b A n c := ((x.far hg _).far hg _).far hg _
end
/-- The library's table lies in its variable. -/
structure Tab (w : World) : Prop where
  at_ : ∀ j, j < 64 → w.cell? ⟨0, j, none⟩ = some (.int .u8 (Lib.deBruijn64tab.getD j 0))
section
variable {w w' : World} {g n c n' c' : Nat} {b b' : Bool} {A A' : Option Addr} {e e' : Int}
theorem Tab.lt (h : Tab w) : 0 < w.heap.size := by
  have := h.at_ 0 (by omega)
  rcases Nat.lt_or_ge 0 w.heap.size with hlt | hge
  · exact hlt
  · simp [World.cell?, Array.getElem?_eq_none hge] at this
theorem Tab.keep (h : Tab w) (hb : Below w.heap.size w w') : Tab w' := ⟨fun j hj => (hb.cell h.lt).trans (h.at_ j hj)⟩
theorem Tab.drw (h : Tab w) : Tab w.drew := ⟨h.at_⟩
theorem Tab.put (h : Tab w) (x : Bx w g b A n c) : Tab ((w.setCell ⟨g, 0, none⟩ (.bool b')).setCell ⟨g, 1, none⟩ (.slice A' n' c')) := ⟨fun j hj => by
  have hj2 := h.at_ j hj
  have e0 : (⟨0, j, none⟩ : Addr) ≠ ⟨g, 0, none⟩ := fun e => by rw [e, x.c0] at hj2; cases hj2
  have e1 : (⟨0, j, none⟩ : Addr) ≠ ⟨g, 1, none⟩ := fun e => by rw [e, x.c1] at hj2; cases hj2
  rw [World.cell?_setCell_other _ _ _ _ e1.symm, World.cell?_setCell_other _ _ _ _ e0.symm]
  exact hj2⟩
theorem Tab.putD (h : Tab w) (x : Dx w g b A n c e) : Tab (((w.setCell ⟨g, 0, none⟩ (.bool b')).setCell ⟨g, 1, none⟩ (.slice A' n' c')).setCell ⟨g, 2, none⟩ (.int .i64 e')) := ⟨fun j hj => by
  have hj2 := h.at_ j hj
  have e0 : (⟨0, j, none⟩ : Addr) ≠ ⟨g, 0, none⟩ := fun e => by rw [e, x.c0] at hj2; cases hj2
  have e1 : (⟨0, j, none⟩ : Addr) ≠ ⟨g, 1, none⟩ := fun e => by rw [e, x.c1] at hj2; cases hj2
  have e2 : (⟨0, j, none⟩ : Addr) ≠ ⟨g, 2, none⟩ := fun e => by rw [e, x.c2] at hj2; cases hj2
  rw [World.cell?_setCell_other _ _ _ _ e2.symm, World.cell?_setCell_other _ _ _ _ e1.symm, World.cell?_setCell_other _ _ _ _ e0.symm]
  exact hj2⟩
end
/-- What a function of dyads hands back. -/
def OutD (w : World) (X E : Int) (k : Nat) (e : Ending) (w' : World) : Prop := ∃ A n c, e = .returned (.agg #[.bool (ngB X), .slice A n c, .int .i64 E]) ∧ Zn w' A n c X k ∧ Below w.heap.size w w'

theorem tz_key (x a : Nat) (hx : x < 18446744073709551616) (hx0 : x ≠ 0) (hlow : x &&& (18446744073709551616 - x) = a) :
    IntKind.u64.wrap (bits BinOp.and IntKind.u64 (x : Int) (IntKind.u64.wrap (-(x : Int))) * 285870213051353865) / 288230376151711744 = ((a * 285870213051353865 % 18446744073709551616 / 288230376151711744 : Nat) : Int) := by
  have e1 : IntKind.u64.wrap (-(x : Int)) = ((18446744073709551616 - x : Nat) : Int) := by rw [wrap_u64]; omega
  rw [e1, bits_and_u64_nat x _ hx (by omega), hlow, wrap_u64]
  omega
theorem tz_core (x k idx : Nat) (w : World) (hx0 : ((x : Int) == 0) = false)
    (key : IntKind.u64.wrap (bits BinOp.and IntKind.u64 (x : Int) (IntKind.u64.wrap (-(x : Int))) * 285870213051353865) / 288230376151711744 = (idx : Int))
    (hi : idx < 64) (hk : k < 64) (hcell : w.cell? ⟨0, idx, none⟩ = some (.int .u8 k)) :
    Calls Tryd.prog 75 #[.int .u64 x] w fun e w' => e = .returned (.int .i64 k) ∧ w = w' := by
  go_enter Tryd.func75, Tryd.ntmps75
  go_wp2_with (simp only [key])
  go_ret
  exact ⟨rfl, rfl⟩
/-- The number of noughts at a limb's end: the limb is an odd number, so many times doubled. -/
theorem TZ_any (x : Int) (w : World) (hx : Lm x) (h0 : x ≠ 0) (hT : Tab w) :
    Calls Tryd.prog 75 #[.int .u64 x] w fun e w' => ∃ t m : Nat, t < 64 ∧ x = ((2 ^ t * (2 * m + 1) : Nat) : Int) ∧ e = .returned (.int .i64 t) ∧ w = w' := by
  have hx2 : 0 ≤ x ∧ x < 18446744073709551616 := by unfold Lm at hx; rw [Wd_eq] at hx; omega
  obtain ⟨N, rfl⟩ : ∃ N : Nat, x = N := ⟨x.toNat, by omega⟩
  have hN0 : N ≠ 0 := by omega
  have hN1 : N < 2 ^ 64 := by omega
  obtain ⟨hlow, hk⟩ := Lib.lowest_bit 64 N hN0 hN1
  obtain ⟨hi, htab⟩ := Lib.deBruijn64_at _ hk
  obtain ⟨m, hm, _⟩ := Lib.ctzFrom_spec 64 N (by omega) hN1
  have hcell := hT.at_ _ hi
  rw [htab] at hcell
  refine (tz_core N _ _ w (by simp; omega) (tz_key N _ (by omega) hN0 hlow) hi hk hcell).mono ?_
  rintro e w' ⟨rfl, rfl⟩
  refine ⟨Lib.ctz 64 N, m, hk, ?_, rfl, rfl⟩
  have : Lib.ctz 64 N = Lib.ctzFrom 64 N := by unfold Lib.ctz; rw [if_neg hN0]
  rw [this, ← hm]

theorem limit_any (n : Int) (w : World) : Calls Tryd.prog 61 #[.int .i64 n] w fun e w' => e = .returned (.int .i64 (li n)) ∧ w = w' := by
  unfold li
  go_enter Tryd.func61, Tryd.ntmps61
  go_wp2
  all_goals go_ret
  all_goals exact ⟨ret_i64 (by omega), rfl⟩

/-- What read hands back: what the argument counts as. -/
def RePost (w : World) (X e : Int) (k : Nat) (en : Ending) (w' : World) : Prop := ∃ b A n c, en = .returned (.agg #[.bool b, .slice A n c, .int .i64 (cE e)]) ∧ Zr w' b A n c (cM X e) k ∧ Below w.heap.size w w'
end Go.Proofs.YtcoidcbbdibnaaaDoor
