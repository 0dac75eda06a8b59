/-
  dyad: read.
-/
import Derived.Test.YtcoidcbbdibnaaaDoorDint
namespace Go.Proofs.YtcoidcbbdibnaaaDoor
open Go.RowKit
set_option linter.unusedVariables false

set_option maxRecDepth 100000 in
set_option maxHeartbeats 1000000 in
theorem read_any {b : Bool} {A : Option Addr} {n c : Nat} {X e : Int} {j : Nat} {w : World} (h : Zr w b A n c X j) :
    Calls Tryd.prog 45 #[.agg #[.bool b, .slice A n c, .int .i64 e]] w (RePost w X e j) := by
  by_cases hr : -4000 ≤ e ∧ e ≤ 4000
  · obtain ⟨hM, hE⟩ := c_yes (X := X) hr
    have HM := Lib.hid hM; have HE := Lib.hid hE; clear hM hE
    have h1 : ¬ e < -4000 := by omega
    have h2 : ¬ 4000 < e := by omega
    go_enter Tryd.func45, Tryd.ntmps45
    go_wp2
    refine bodyPost_ret (v := .agg #[.bool b, .slice A n c, .int .i64 e]) (by simp [results, Tryd.results45, go_sem]) rfl ?_
    exact ⟨_, _, _, _, by rw [HE.out], by rw [HM.out]; exact h.keep (below_alloc2 _ _ _), below_alloc2 _ _ _⟩
  · obtain ⟨hM, hE⟩ := c_no (X := X) hr
    have HM := Lib.hid hM; have HE := Lib.hid hE; clear hM hE
    have hfin : ∀ w' : World, Zr w' false none 0 0 (cM X e) j := fun w' => ⟨[], Rd.nil, by rw [HM.out]; rfl, Nat.zero_le _⟩
    have HFIN := Lib.hid hfin; clear hfin
    rcases (show e < -4000 ∨ (¬ e < -4000 ∧ 4000 < e) by omega) with h1 | ⟨h1, h2⟩
    · skip
      go_enter Tryd.func45, Tryd.ntmps45
      go_wp2
      refine bodyPost_ret (v := .agg #[.bool false, .slice none 0 0, .int .i64 0]) (by simp [results, Tryd.results45, go_sem]) rfl ?_
      exact ⟨_, _, _, _, by rw [HE.out], HFIN.out _, below_alloc2 _ _ _⟩
    · skip
      go_enter Tryd.func45, Tryd.ntmps45
      go_wp2
      refine bodyPost_ret (v := .agg #[.bool false, .slice none 0 0, .int .i64 0]) (by simp [results, Tryd.results45, go_sem]) rfl ?_
      exact ⟨_, _, _, _, by rw [HE.out], HFIN.out _, below_alloc2 _ _ _⟩

end Go.Proofs.YtcoidcbbdibnaaaDoor
