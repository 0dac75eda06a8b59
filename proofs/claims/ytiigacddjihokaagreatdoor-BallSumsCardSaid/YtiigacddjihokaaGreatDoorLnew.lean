/-
 Two new variables that a statement makes, wherever they lie.
-/
import Derived.Test.YtiigacddjihokaaGreatDoorLint
import Derived.Deep.DeepCutAuto
namespace Go.Proofs.YtiigacddjihokaaGreatDoor
open Go.RowKit
set_option linter.unusedVariables false

theorem alloc_size (w : World) (o : Obj) : (w.alloc o).heap.size = w.heap.size + 1 := by simp
section
variable {v wx : World} {X Y : Int} {k k2 g h n c n2 c2 m d m2 d2 : Nat} {b b2 p p2 : Bool} {A A2 B B2 : Option Addr}
end
end Go.Proofs.YtiigacddjihokaaGreatDoor
