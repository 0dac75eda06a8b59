/-
  The document's answer: DivMod by nought, and the halving's arithmetic.
-/
import Derived.Test.YtcoidcbbdibnaaaRdiv
namespace Go.Proofs.Ytcoidcbbdibnaaa
open Go.RowKit
set_option linter.unusedVariables false

set_option maxHeartbeats 1000000 in
theorem RDivMod_zero (A A2 : Option Addr) (n c n2 c2 : Nat) (l m : List Int) (w : World) (h : Rd w w.heap.size A n c l) (h2 : Rd w w.heap.size A2 n2 c2 m) (hn : n ≤ 1000000) (hn2 : n2 ≤ 1000000) (hM0 : vl Wd m = 0) :
    Calls Try.prog 47 #[.slice A n c, .slice A2 n2 c2] w fun e w' => e = .returned (.tuple #[.slice none 0 0, .slice none 0 0, .bool false]) ∧ Below w.heap.size w w' := by
  have HM := Lib.hid hM0; clear hM0
  go_enter Try.func47, Try.ntmps47
  go_wp2_with fail
  refine (Digits_any _ _ _ _ _ h (by omega)).mono ?_
  rintro e w1 ⟨A1, n1, c1, rfl, g1, hb1⟩
  have h2 := (h2.below hb1).more hb1.size
  go_wp2_with fail
  refine (Digits_any _ _ _ _ _ h2 (by omega)).mono ?_
  rintro e w2 ⟨A3, n3, c3, rfl, g3, hb2⟩
  rw [HM.out, dg_zero] at g3
  obtain rfl : 0 = n3 := g3.len
  have hb := hb1.trans (hb2.mono hb1.size)
  clear hb1 hb2 g1 g3 h h2
  go_wp2
  go_ret3
  exact ⟨rfl, hb⟩

/-- Reading something stays if another block is written. -/
theorem Rd.far {w : World} {B n c g j : Nat} {A : Option Addr} {l : List Int} (h : Rd w B A n c l) (hA : ∀ a, A = some a → a.block ≠ g) (v : Value) : Rd (w.setCell ⟨g, j, none⟩ v) B A n c l := by
  refine ⟨h.len, h.cap, h.big, h.lim, fun hn => ?_⟩
  obtain ⟨b, off, rfl, hb, hc⟩ := h.at_ hn
  refine ⟨b, off, rfl, hb, fun k hk => ?_⟩
  rw [← hc k hk]
  exact World.cell?_setCell_far _ _ _ _ (fun e => hA _ rfl e.symm)
/-- One halving: is the middle too much? -/
theorem half_cmp {M X k : Nat} (hM : 0 < M) : cmpI (M * k) X ≤ 0 ↔ k ≤ X / M := by
  rw [Nat.le_div_iff_mul_le hM, Nat.mul_comm k M]
  unfold cmpI
  split
  · omega
  · split <;> omega
end Go.Proofs.Ytcoidcbbdibnaaa
