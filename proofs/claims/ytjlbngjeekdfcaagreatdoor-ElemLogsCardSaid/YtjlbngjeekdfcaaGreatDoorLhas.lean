/-
 ball: Has.
-/
import Derived.Test.YtjlbngjeekdfcaaGreatDoorLpoint
import Derived.Test.YtjlbngjeekdfcaaGreatDoorEbox
namespace Go.Proofs.YtjlbngjeekdfcaaGreatDoor
variable {X : Int}
set_option linter.unusedVariables false
open Go.RowKit
theorem c_q {q : Int} (h : 0 ≤ q ∧ q ≤ 2048) : cM X (-q) = X ∧ cE (-q) = -q := c_yes ⟨by omega, by omega⟩
theorem cmp_le {Y e f : Int} : sgnI (alP X e f - alQ Y e f) ≤ 0 ↔ vd (cM X e) (cE e) ≤ vd (cM Y f) (cE f) := by rw [cmp_vdc]; exact sgn_le
end Go.Proofs.YtjlbngjeekdfcaaGreatDoor
