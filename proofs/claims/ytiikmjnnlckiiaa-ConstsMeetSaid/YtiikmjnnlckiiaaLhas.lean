/-
  ball: Has.
-/
import Derived.Test.YtiikmjnnlckiiaaLfun
import Derived.Test.YtiikmjnnlckiiaaLnum
namespace Go.Proofs.Ytiikmjnnlckiiaa
open Go.RowKit
set_option linter.unusedVariables false

theorem c_q {X q : Int} (h : 0 ≤ q ∧ q ≤ 2048) : cM X (-q) = X ∧ cE (-q) = -q := c_yes ⟨by omega, by omega⟩
theorem cmp_le {X Y e f : Int} : sgnI (alP X e f - alQ Y e f) ≤ 0 ↔ vd (cM X e) (cE e) ≤ vd (cM Y f) (cE f) := by rw [cmp_vdc]; exact sgn_le

end Go.Proofs.Ytiikmjnnlckiiaa
