/-
 ball: Times, Shift.
-/
import Derived.Test.YtdonaominffpnaaGreatDoorLpoint
import Derived.Test.YtdonaominffpnaaGreatDoorLclos
namespace Go.Proofs.YtdonaominffpnaaGreatDoor
set_option linter.unusedVariables false
open Go.RowKit
end Go.Proofs.YtdonaominffpnaaGreatDoor
