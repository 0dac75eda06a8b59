/-
  rows: two integers and an error.
-/
import Derived.Test.YtiikmjnnlckiiaaPc
import Derived.Test.YtiikmjnnlckiiaaRwm
namespace Go.Proofs.Ytiikmjnnlckiiaa
open Go.RowKit
set_option linter.unusedVariables false

/-- Two integers and an error's number. -/
def Ou2 (w : World) (P Q x : Int) (k : Nat) (e : Ending) (w' : World) : Prop := ∃ A n c A2 n2 c2, e = .returned (.tuple #[.agg #[.bool (ngB P), .slice A n c], .agg #[.bool (ngB Q), .slice A2 n2 c2], .int .i64 x]) ∧ Zn w' A n c P k ∧ Zn w' A2 n2 c2 Q k ∧ Below w.heap.size w w'
/-- Block g is a box of the integer X, in normal form. -/
def Bn (w : World) (g : Nat) (X : Int) (k : Nat) : Prop := ∃ A n c, Bx w g (ngB X) A n c ∧ Zn w A n c X k
theorem si_twL {X : Int} {Q K L : Nat} (hK : K ≤ 2000) (hQ : Q + 11 ≤ 64 * L) (h : X ≤ K * twP Q) (h0 : -(K * twP Q) ≤ X) : Si X L := by
  have hp := tw_pos Q
  have h1 : X.natAbs ≤ K * 2 ^ Q := by
    have e : ((K * 2 ^ Q : Nat) : Int) = K * twP Q := by unfold twP; push_cast; rfl
    omega
  have h5 : Wd ^ L = 2 ^ (64 * L - Q) * 2 ^ Q := by rw [Wd_pow, ← Nat.pow_mul, ← Nat.pow_add, Nat.sub_add_cancel (by omega)]
  have h6 : 2 ^ 11 ≤ 2 ^ (64 * L - Q) := Nat.pow_le_pow_right Nat.zero_lt_two (by omega)
  have h7 : K < 2 ^ (64 * L - Q) := Nat.lt_of_lt_of_le (Nat.lt_of_le_of_lt hK (by decide)) h6
  show X.natAbs < Wd ^ L
  rw [h5]
  exact Nat.lt_of_le_of_lt h1 (Nat.mul_lt_mul_of_pos_right h7 (Nat.pow_pos Nat.zero_lt_two))
theorem si_tw {X : Int} {Q K : Nat} (hK : K ≤ 2000) (hQ : Q ≤ 1200) (h : X ≤ K * twP Q) (h0 : -(K * twP Q) ≤ X) : Si X 20 := si_twL hK (by omega) h h0
theorem Ou2.mk {w w' : World} {P Q P' Q' x : Int} {k n c n2 c2 : Nat} {A A2 : Option Addr} (e1 : P' = P) (e2 : Q' = Q) (z : Zn w' A n c P k) (z2 : Zn w' A2 n2 c2 Q k) (hb : Below w.heap.size w w') : Ou2 w P' Q' x k (.returned (.tuple #[.agg #[.bool (ngB P), .slice A n c], .agg #[.bool (ngB Q), .slice A2 n2 c2], .int .i64 x])) w' := by
  subst e1 e2
  exact ⟨_, _, _, _, _, _, rfl, z, z2, hb⟩
end Go.Proofs.Ytiikmjnnlckiiaa
