/-
  The law NatGcds, as a call.
-/
import Derived.Test.YtniippglkboieaaRgcd
namespace Go.Proofs.Ytniippglkboieaa
open Go.RowKit
set_option linter.unusedVariables false

set_option maxHeartbeats 4000000 in
theorem NatGcds_any (A A2 : Option Addr) (n c n2 c2 : Nat) (l1 l2 : List Int) (w : World) (ga : Rd w w.heap.size A n c l1) (gb : Rd w w.heap.size A2 n2 c2 l2) :
    Calls Try.prog 7 #[.slice A n c, .slice A2 n2 c2] w fun e w' => e = .returned (.bool true) ∧ Below w.heap.size w w' := by
  go_enter Try.func7, Try.ntmps7
  go_wp2_with fail
  refine (shown_any _).mono ?_
  rintro e w1 ⟨rfl, hb⟩
  have ga := (ga.below hb).more hb.size
  have gb := (gb.below hb).more hb.size
  go_wp2_with fail
  refine (cut_any _ _ _ _ 4 _ _ ga (by omega)).mono ?_
  rintro e w' ⟨A2, n2, c2, rfl, hn2, ga, rfl⟩
  go_wp2_with fail
  refine (cut_any _ _ _ _ 4 _ _ gb (by omega)).mono ?_
  rintro e w' ⟨A3, n3, c3, rfl, hn3, gb, rfl⟩
  have m_ga := Sm.of ga hn2
  generalize hN_ga : vl Wd (l1.take 4) = N1 at *
  have HN_ga := Lib.hid hN_ga; clear hN_ga
  generalize (l1.take 4) = k_ga at *
  have m_gb := Sm.of gb hn3
  generalize hN_gb : vl Wd (l2.take 4) = N2 at *
  have HN_gb := Lib.hid hN_gb; clear hN_gb
  generalize (l2.take 4) = k_gb at *
  go_wp2_with fail
  refine (Gcd_any _ _ _ _ _ _ _ _ _ ga gb (by omega) (by omega)).mono ?_
  rintro e w4 ⟨A_gq, n_gq, c_gq, rfl, gq, hb1⟩
  rw [HN_ga.out, HN_gb.out] at gq
  have ga := (ga.below hb1).more hb1.size
  have gb := (gb.below hb1).more hb1.size
  have hb := hb.trans (hb1.mono hb.size)
  clear hb1
  go_wp2_with fail
  refine (RGcd_any _ _ _ _ _ _ _ _ _ ga gb (by omega) (by omega)).mono ?_
  rintro e w5 ⟨A_gs, n_gs, c_gs, rfl, gs, hb1⟩
  rw [HN_ga.out, HN_gb.out] at gs
  have ga := (ga.below hb1).more hb1.size
  have gb := (gb.below hb1).more hb1.size
  have gq := (gq.below hb1).more hb1.size
  have hb := hb.trans (hb1.mono hb.size)
  clear hb1
  go_wp2_with fail
  refine (Same_any _ _ _ _ _ _ _ _ _ _ gq gs).mono ?_
  rintro e w6 ⟨rfl, hq⟩
  rw [sameB_dg (rfl)]
  have hb1 := hq.bel
  clear hq
  have ga := (ga.below hb1).more hb1.size
  have gb := (gb.below hb1).more hb1.size
  have hb := hb.trans (hb1.mono hb.size)
  clear hb1 gq gs
  go_wp2
  go_ret
  exact ⟨by first | rfl | simp, hb⟩
end Go.Proofs.Ytniippglkboieaa
