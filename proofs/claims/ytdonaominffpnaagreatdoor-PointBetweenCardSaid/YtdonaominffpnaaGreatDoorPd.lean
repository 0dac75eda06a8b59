/-
 zed: Text.
-/
import Derived.Test.YtdonaominffpnaaGreatDoorPc
import Derived.Test.YtdonaominffpnaaGreatDoorPa
import Derived.Maps.AppendAt
namespace Go.Proofs.YtdonaominffpnaaGreatDoor
set_option maxRecDepth 100000
set_option linter.unusedVariables false
section
open Go.RowKit
end
section
open Go.RowKit
end
section
open Go.RowKit
end
section
open Go.RowKit
end
section
open Go.RowKit
end
section
open Go.RowKit
end
end Go.Proofs.YtdonaominffpnaaGreatDoor
