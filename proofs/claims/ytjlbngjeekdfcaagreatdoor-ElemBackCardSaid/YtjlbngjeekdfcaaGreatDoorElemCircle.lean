/-
 The law ElemCircle, as a call.
-/
import Derived.Test.YtjlbngjeekdfcaaGreatDoorEshow
import Derived.Test.YtjlbngjeekdfcaaGreatDoorEval
import Derived.Test.YtjlbngjeekdfcaaGreatDoorLhas
import Derived.Test.YtjlbngjeekdfcaaGreatDoorLmeets
import Derived.Deep.DeepCutAuto
namespace Go.Proofs.YtjlbngjeekdfcaaGreatDoor
set_option linter.unusedVariables false
open Go.RowKit
open MX (bLo bHi tA tZ xK xR xS yR yS uR uS gR gS hR hS wK wR wS vJ vKi vN vLo vHi nq Hd)
theorem sgn_le8 {X : Int} (h : X ≤ 0) : sgnI X ≤ 0 := by unfold sgnI; split <;> (try split) <;> omega
end Go.Proofs.YtjlbngjeekdfcaaGreatDoor
