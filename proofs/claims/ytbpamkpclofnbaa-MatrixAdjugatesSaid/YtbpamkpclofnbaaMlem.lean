/-
  matrix: what the laws want of the numbers: adjugates, solutions.
-/
import Derived.Test.YtbpamkpclofnbaaMcof
import Derived.Test.YtbpamkpclofnbaaMmul2
namespace Go.Proofs.Ytbpamkpclofnbaa
open MD
set_option linter.unusedVariables false

theorem mn_tr (A : Mx) (i k : Nat) : mn (tr A) i k = tr (mn A k i) := rfl
/-- A matrix times its adjugate. -/
theorem adj_right {n i k : Nat} (hi : i < n + 1) (hk : k < n + 1) (A : Mx) : (sm (n + 1) fun j => A i j * adjF n A j k) = if i = k then det (n + 1) A else 0 := by
  have h := det_row hk A (A i)
  have e : (sm (n + 1) fun j => A i j * adjF n A j k) = sm (n + 1) fun j => A i j * (sg (k + j) * det n (mn A k j)) := sm_congr fun j hj => by rw [adjF, Nat.add_comm]
  rw [e, ← h]
  split
  · next e2 => subst e2; rw [sr_self]
  · next e2 =>
    refine (alt_det _).eq (i := i) (k := k) e2 hi hk fun c hc => ?_
    simp [sr, e2]
theorem adj_tr (n : Nat) (A : Mx) (i k : Nat) : adjF n (tr A) i k = adjF n A k i := by
  unfold adjF
  rw [mn_tr, det_tr, Nat.add_comm]
/-- The adjugate times the matrix. -/
theorem adj_left {n i k : Nat} (hi : i < n + 1) (hk : k < n + 1) (A : Mx) : (sm (n + 1) fun j => adjF n A i j * A j k) = if i = k then det (n + 1) A else 0 := by
  have h := adj_right hk hi (tr A)
  rw [det_tr] at h
  have e : (sm (n + 1) fun j => adjF n A i j * A j k) = sm (n + 1) fun j => tr A k j * adjF n (tr A) j i := sm_congr fun j hj => by rw [adj_tr, Int.mul_comm]; rfl
  rw [e, h]
  by_cases e2 : i = k
  · rw [if_pos e2, if_pos e2.symm]
  · rw [if_neg e2, if_neg (Ne.symm e2)]
/-- What solves, solves. -/
theorem svx_sol {n i : Nat} (hi : i < n) (A : Mx) (l : List Int) : (sm n fun k => A i k * svx n A l k) = det n A * l.getD i 0 := by
  have h := cut_sol hi (aug n A l)
  have e : (sm (n + 1) fun k => aug n A l i k * (sg k * det n (cut (aug n A l) k))) = (sm n fun k => A i k * crs n (aug n A l) k) + l.getD i 0 * crs n (aug n A l) n := by
    simp only [sm]
    congr 1
    · exact sm_congr fun k hk => by
        have : aug n A l i k = A i k := by simp [aug]; omega
        rw [this]; rfl
    · have : aug n A l i n = l.getD i 0 := by simp [aug]
      rw [this]; rfl
  rw [e] at h
  have e2 : (sm n fun k => A i k * svx n A l k) = -sg n * sm n fun k => A i k * crs n (aug n A l) k := by
    rw [← sm_mul]
    exact sm_congr fun k hk => by unfold svx; grind
  rw [e2, ← aug_det n A l]
  grind
end Go.Proofs.Ytbpamkpclofnbaa
