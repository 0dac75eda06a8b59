/-
  The law NatShifts, as a call.
-/
import Derived.Test.YtniippglkboieaaRshr
namespace Go.Proofs.Ytniippglkboieaa
open Go.RowKit
set_option linter.unusedVariables false

set_option maxHeartbeats 4000000 in
theorem NatShifts_any (A : Option Addr) (n c : Nat) (l1 : List Int) (x : Int) (w : World) (ga : Rd w w.heap.size A n c l1) (_hx : -9223372036854775808 ≤ x ∧ x ≤ 9223372036854775807) :
    Calls Try.prog 5 #[.slice A n c, .int .i64 x] w fun e w' => e = .returned (.bool true) ∧ Below w.heap.size w w' := by
  go_enter Try.func5, Try.ntmps5
  go_wp2_with fail
  refine (shown_any _).mono ?_
  rintro e w1 ⟨rfl, hb⟩
  have ga := (ga.below hb).more hb.size
  go_wp2_with fail
  refine (cut_any _ _ _ _ 40 _ _ ga (by omega)).mono ?_
  rintro e w' ⟨A2, n2, c2, rfl, hn2, ga, rfl⟩
  have m_ga := Sm.of ga hn2
  generalize hN_ga : vl Wd (l1.take 40) = N at *
  have HN_ga := Lib.hid hN_ga; clear hN_ga
  generalize (l1.take 40) = k_ga at *
  go_wp2_with fail
  refine (Shl_any _ _ _ _ x _ ga (by omega)).mono ?_
  rintro e w3 ⟨A_gs, n_gs, c_gs, rfl, gs, hb1⟩
  rw [HN_ga.out] at gs
  have ga := (ga.below hb1).more hb1.size
  have hb := hb.trans (hb1.mono hb.size)
  clear hb1
  go_wp2_with fail
  refine (RShl_any _ _ _ _ x _ ga (by omega)).mono ?_
  rintro e w4 ⟨A_gt, n_gt, c_gt, rfl, gt, hb1⟩
  rw [HN_ga.out] at gt
  have ga := (ga.below hb1).more hb1.size
  have gs := (gs.below hb1).more hb1.size
  have hb := hb.trans (hb1.mono hb.size)
  clear hb1
  go_wp2_with fail
  refine (Same_any _ _ _ _ _ _ _ _ _ _ gs gt).mono ?_
  rintro e w5 ⟨rfl, hq⟩
  rw [sameB_dg (rfl)]
  have hb1 := hq.bel
  clear hq
  have ga := (ga.below hb1).more hb1.size
  have hb := hb.trans (hb1.mono hb.size)
  clear hb1 gs gt
  go_wp2_with fail
  refine (Shr_any _ _ _ _ x _ ga (by omega)).mono ?_
  rintro e w6 ⟨A_gp, n_gp, c_gp, rfl, gp, hb1⟩
  rw [HN_ga.out] at gp
  have ga := (ga.below hb1).more hb1.size
  have hb := hb.trans (hb1.mono hb.size)
  clear hb1
  go_wp2_with fail
  refine (RShr_any _ _ _ _ x _ ga (by omega)).mono ?_
  rintro e w7 ⟨A_gq, n_gq, c_gq, rfl, gq, hb1⟩
  rw [HN_ga.out] at gq
  have ga := (ga.below hb1).more hb1.size
  have gp := (gp.below hb1).more hb1.size
  have hb := hb.trans (hb1.mono hb.size)
  clear hb1
  go_wp2_with fail
  refine (Same_any _ _ _ _ _ _ _ _ _ _ gp gq).mono ?_
  rintro e w8 ⟨rfl, hq⟩
  rw [sameB_dg (rfl)]
  have hb1 := hq.bel
  clear hq
  have ga := (ga.below hb1).more hb1.size
  have hb := hb.trans (hb1.mono hb.size)
  clear hb1 gp gq
  go_wp2
  go_ret
  exact ⟨rfl, hb⟩
end Go.Proofs.Ytniippglkboieaa
