/-
 From an argument's reading to a dyad, and from the listed variable to the library's table: what every row of dyad's laws wants.
-/
import Derived.Test.YtiigacddjihokaaGreatDoorPb
import Derived.ProofKit
import Derived.SizedLaws
import Derived.OpenShut
import Derived.Test.YtiigacddjihokaaGreatDoorPc
import Derived.Lib.SmallJoins
import Derived.Test.YtiigacddjihokaaGreatDoorPf
import Derived.Test.YtiigacddjihokaaGreatDoorCards
import Derived.Test.YtiigacddjihokaaGreatDoorTie
import Derived.LaidMore
import Derived.SevenTiedAt
namespace Go.Proofs.YtiigacddjihokaaGreatDoor
section
set_option maxRecDepth 100000
open Go.ChangeShapes Go.WideShapes Go.ChangeAt Go.RowKit
set_option linter.unusedVariables false

theorem Tryz.own : ownKnob Tryz.prog.godebug = none := by kernel_rfl
theorem Tryz.laidOut : laidOutB Tryz.prog = true := by kernel_rfl
theorem Tryz.cells64 : Tryz.prog.cellsOf 66 = 1 := by kernel_rfl
theorem Tryz.bytes64 : Tryz.prog.bytesOf 66 = 8 := by kernel_rfl

theorem wf_lm {n : Int} (h : (Lit.int .u64 n).wf = true) : 0 ≤ n ∧ n < (Wd : Int) := by
 simp only [Lit.wf, Bool.and_eq_true, decide_eq_true_eq] at h
 have h1 : IntKind.u64.min = 0 := rfl
 have h2 : IntKind.u64.max = 18446744073709551615 := rfl
 rw [Wd_eq]; omega
theorem bounds_int {n : Int} (h : (Lit.int .i64 n).wf = true) : -9223372036854775808 ≤ n ∧ n ≤ 9223372036854775807 := by
 simp only [Lit.wf, Bool.and_eq_true, decide_eq_true_eq] at h
 have h1 : IntKind.i64.min = -9223372036854775808 := rfl
 have h2 : IntKind.i64.max = 9223372036854775807 := rfl
 omega

end
end Go.Proofs.YtiigacddjihokaaGreatDoor
namespace Go.Proofs.YtiigacddjihokaaGreatDoor
section
set_option maxRecDepth 100000
open Go.Joins Go.ChangeShapes Go.WideShapes Go.ChangeAt Go.RowKit
set_option linter.unusedVariables false

theorem Tryz.cellsInt : Tryz.prog.cellsOf 24 = 2 := by kernel_rfl

end
end Go.Proofs.YtiigacddjihokaaGreatDoor
namespace Go.Proofs.YtiigacddjihokaaGreatDoor
section
set_option maxRecDepth 100000
open Go.Joins Go.ChangeShapes Go.WideShapes Go.ChangeAt Go.RowKit
set_option linter.unusedVariables false

end
end Go.Proofs.YtiigacddjihokaaGreatDoor
namespace Go.Proofs.YtiigacddjihokaaGreatDoor
section
set_option maxRecDepth 100000
open Go.Joins Go.ChangeShapes Go.WideShapes Go.ChangeAt Go.RowKit
set_option linter.unusedVariables false
set_option maxRecDepth 100000

theorem Tryz.gTab : Tryz.prog.globalNamed "math/bits.deBruijn64tab" = some 0 := by kernel_rfl
theorem Tryz.tTab : (Tryz.prog.globals[0]?).map (·.type) = some 106 := by kernel_rfl
def laidT {H : Type} : List (String × DataW H) := [("math/bits.deBruijn64tab", Rows.laid_math_bits_deBruijn64tab)]
theorem door_met (os : Go.Os) (args : Array Value) : laidMetH Tryz.prog laidT ((World.doorLaid Tryz.prog 400 os).forCall (fun _ _ => 0) ⟨#[], args, []⟩).memory :=
 laidMetH_of_parts3 (fuel := 8) (laidMet_of_run' 8 (by kernel_rfl) (by kernel_rfl)) (by kernel_rfl) (by kernel_rfl)
theorem cells8 : Tryz.prog.cellsOf 5 = 1 := by kernel_rfl
theorem tab_of_laid {W : World} (h : laidMetH Tryz.prog laidT W) : Tab W := by
 rw [MakeChecks.laidMetH_plain _ _ _ (by kernel_rfl)] at h
 obtain ⟨ps, ⟨g0, t0, cs0, f0, p0, q0, hg0, ht0, hv0, hd0, _, _⟩, _, _⟩ := h
 obtain rfl := Option.some.inj (Tryz.gTab.symm.trans hg0)
 obtain rfl := Option.some.inj (Tryz.tTab.symm.trans ht0)
 obtain ⟨xs, m1, rfl, hx1, hlen, hn3, hel⟩ := DataW.trod_array Tryz.underlying106 hd0
 simp only [Prod.mk.injEq] at hx1
 have hL : (xs.map fun x => x.fst) = Lib.deBruijn64tab.map fun (n : Nat) => DataW.lit (.int .u8 (n : Int)) := by
  have h1 := hx1.1
  have h2 : (Rows.laid_math_bits_deBruijn64tab : DataW Unit) = DataW.agg (Lib.deBruijn64tab.map fun (n : Nat) => DataW.lit (.int .u8 (n : Int))) := by kernel_rfl
  rw [h2] at h1
  injection h1 with h1
  exact h1.symm
 have hlt : Lib.deBruijn64tab.length = 64 := by kernel_rfl
 refine ⟨fun j hj => ?_⟩
 have hj0 := hel j hj
 obtain ⟨x, hx⟩ : ∃ x, xs[j]? = some x := ⟨xs[j], List.getElem?_eq_getElem (by omega)⟩
 rw [hx] at hj0
 obtain ⟨k, e1, e2, _⟩ := DataW.trod_int Tryz.underlying5 hj0
 have h3 := congrArg (fun l => l[j]?) hL
 simp only [List.getElem?_map, hx, Option.map_some, e2] at h3
 rw [List.getElem?_eq_getElem (by omega)] at h3
 simp only [Option.map_some, Option.some.injEq, DataW.lit.injEq, Lit.int.injEq, true_and] at h3
 have h4 := World.var?_cell hg0 hv0 j
 rw [cells8, Nat.mul_one] at e1
 have h5 : cs0.toList[j]? = some (.int .u8 k) := by
  have := congrArg (fun l => l[0]?) e1
  simpa using this
 rw [Array.getElem?_toList] at h5
 rw [h5] at h4
 rw [h4, h3]
 simp [List.getD, hlt, hj]
end
end Go.Proofs.YtiigacddjihokaaGreatDoor
