/-
  What the laws of ball have in common.
-/
import Derived.Test.YtiigacddjihokaaGreatDoorLshown
import Derived.Test.YtiigacddjihokaaGreatDoorLinside
import Derived.Test.YtiigacddjihokaaGreatDoorLmeets
namespace Go.Proofs.YtiigacddjihokaaGreatDoor
open Go.RowKit
set_option linter.unusedVariables false

theorem ins_trans {X Y q U V r S T s : Int} (h : insB X Y q U V r = true) (h2 : insB U V r S T s = true) : insB X Y q S T s = true := by
  unfold insB at *
  simp only [decide_eq_true_eq] at *
  exact ⟨h.1, h2.2.1, Int.le_trans h2.2.2.1 h.2.2.1, Int.le_trans h.2.2.2 h2.2.2.2⟩
theorem ins_met {X Y q U V r : Int} (h : insB X Y q U V r = true) : metB X Y q U V r = true := by
  unfold insB at h
  unfold metB
  simp only [decide_eq_true_eq] at *
  have := (vd_le (e := -q)).2 h.1.2.2
  exact ⟨h.1, h.2.1, Int.le_trans this h.2.2.2, Int.le_trans h.2.2.1 this⟩
theorem met_comm (X Y q U V r : Int) : metB X Y q U V r = metB U V r X Y q := by
  unfold metB
  refine decide_eq_decide.2 ⟨fun h => ⟨h.2.1, h.1, h.2.2.2, h.2.2.1⟩, fun h => ⟨h.2.1, h.1, h.2.2.2, h.2.2.1⟩⟩
theorem ins_self {X Y q : Int} (h : 0 ≤ q ∧ q ≤ 2048 ∧ X ≤ Y) : insB X Y q X Y q = true := by
  unfold insB
  exact decide_eq_true ⟨h, h, Int.le_refl _, Int.le_refl _⟩

end Go.Proofs.YtiigacddjihokaaGreatDoor
