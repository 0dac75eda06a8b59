/-
 What dyads are worth, as integers: each times 2 ^ 4000. Plain mathematics over the answers of dyad's functions.
-/
import Derived.Test.YtiigacddjihokaaGreatDoorPf
namespace Go.Proofs.YtiigacddjihokaaGreatDoor
section
set_option maxRecDepth 100000
open Go.RowKit
set_option linter.unusedVariables false

end
end Go.Proofs.YtiigacddjihokaaGreatDoor
namespace Go.Proofs.YtiigacddjihokaaGreatDoor
section
set_option maxRecDepth 100000
open Go.RowKit
set_option linter.unusedVariables false

end
end Go.Proofs.YtiigacddjihokaaGreatDoor
namespace Go.Proofs.YtiigacddjihokaaGreatDoor
section
set_option maxRecDepth 100000
set_option linter.unusedVariables false

end
end Go.Proofs.YtiigacddjihokaaGreatDoor
