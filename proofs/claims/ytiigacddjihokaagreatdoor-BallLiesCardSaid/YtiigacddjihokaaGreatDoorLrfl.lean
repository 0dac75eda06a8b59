/-
  the document's answers for dyads, at the places of a ball.
-/
import Derived.Test.YtiigacddjihokaaGreatDoorLref0
import Derived.Test.YtiigacddjihokaaGreatDoorLpoint
import Derived.Test.YtiigacddjihokaaGreatDoorPi
namespace Go.Proofs.YtiigacddjihokaaGreatDoor
open Go.RowKit
set_option linter.unusedVariables false

theorem RFloor_q {b : Bool} {A : Option Addr} {n c : Nat} {X e : Int} {j : Nat} {w : World} (h : Zr w b A n c X j) (q : Int) (hq : 0 ≤ q ∧ q ≤ 2048) (hj : j ≤ 12) :
    Calls Tryz.prog 43 #[.agg #[.bool b, .slice A n c, .int .i64 e], .int .i64 q] w (OutZ w (flI (cM X e) (cE e + q)) 300) := by
  have := RFloor_any (e := e) h q 300 (by omega) hj (by omega)
  rw [li_q ⟨by omega, by omega⟩] at this
  exact this
theorem RCeil_q {b : Bool} {A : Option Addr} {n c : Nat} {X e : Int} {j : Nat} {w : World} (h : Zr w b A n c X j) (q : Int) (hq : 0 ≤ q ∧ q ≤ 2048) (hj : j ≤ 12) :
    Calls Tryz.prog 44 #[.agg #[.bool b, .slice A n c, .int .i64 e], .int .i64 q] w (OutZ w (-flI (-cM X e) (cE e + q)) 300) := by
  have := RCeil_any (e := e) h q 300 (by omega) hj (by omega)
  rw [li_q ⟨by omega, by omega⟩] at this
  exact this
end Go.Proofs.YtiigacddjihokaaGreatDoor
