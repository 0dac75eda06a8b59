/-
 A dyad's integer laid anew.
-/
import Derived.Test.YtiigacddjihokaaGreatDoorLcut
namespace Go.Proofs.YtiigacddjihokaaGreatDoor
open Go.RowKit
set_option linter.unusedVariables false

section
variable {w : World} {g n c n' c' : Nat} {b b' : Bool} {A A' : Option Addr} {e : Int}
end
end Go.Proofs.YtiigacddjihokaaGreatDoor
