/-
  The law NatDivides, as a call.
-/
import Derived.Test.YtniippglkboieaaRdm
import Derived.Test.YtniippglkboieaaStands
namespace Go.Proofs.Ytniippglkboieaa
open Go.RowKit
set_option linter.unusedVariables false

theorem RDivMod_any (A A2 : Option Addr) (n c n2 c2 : Nat) (l m : List Int) (w : World) (h : Rd w w.heap.size A n c l) (h2 : Rd w w.heap.size A2 n2 c2 m) (hn : n ≤ 1000000) (hn2 : n2 ≤ 1000000) (hM0 : 0 < vl Wd m) :
    Calls Try.prog 36 #[.slice A n c, .slice A2 n2 c2] w (DmPost w (vl Wd l) (vl Wd m)) := by
  rcases Nat.lt_or_ge 1 (dg Hb (vl Wd m)).length with h1 | h1
  · exact RDivMod_many A A2 n c n2 c2 l m w h h2 hn hn2 h1
  · refine RDivMod_one A A2 n c n2 c2 l m w h h2 hn hn2 ?_
    rcases Nat.eq_zero_or_pos (dg Hb (vl Wd m)).length with h0 | h0
    · have := (dg_eq_nil Hb2).1 (List.eq_nil_of_length_eq_zero h0)
      omega
    · omega

set_option maxHeartbeats 4000000 in
theorem NatDivides_any (A A2 : Option Addr) (n c n2 c2 : Nat) (l1 l2 : List Int) (w : World) (ga : Rd w w.heap.size A n c l1) (gb : Rd w w.heap.size A2 n2 c2 l2) :
    Calls Try.prog 6 #[.slice A n c, .slice A2 n2 c2] w fun e w' => e = .returned (.bool true) ∧ Below w.heap.size w w' := by
  go_enter Try.func6, Try.ntmps6
  go_wp2_with fail
  refine (shown_any _).mono ?_
  rintro e w1 ⟨rfl, hb⟩
  have ga := (ga.below hb).more hb.size
  have gb := (gb.below hb).more hb.size
  go_wp2_with fail
  refine (cut_any _ _ _ _ 24 _ _ ga (by omega)).mono ?_
  rintro e w' ⟨A2, n2, c2, rfl, hn2, ga, rfl⟩
  go_wp2_with fail
  refine (cut_any _ _ _ _ 16 _ _ gb (by omega)).mono ?_
  rintro e w' ⟨A3, n3, c3, rfl, hn3, gb, rfl⟩
  have m_ga := Sm.of ga hn2
  generalize hN_ga : vl Wd (l1.take 24) = N1 at *
  have HN_ga := Lib.hid hN_ga; clear hN_ga
  generalize (l1.take 24) = k_ga at *
  have m_gb := Sm.of gb hn3
  generalize hN_gb : vl Wd (l2.take 16) = N2 at *
  have HN_gb := Lib.hid hN_gb; clear hN_gb
  generalize (l2.take 16) = k_gb at *
  by_cases h0 : N2 = 0
  · go_wp2_with fail
    refine (DivMod_zero _ _ _ _ _ _ _ _ _ ga gb (by rw [HN_gb.out]; exact h0)).mono ?_
    rintro e w' ⟨rfl, rfl⟩
    go_wp2_with fail
    refine (RDivMod_zero _ _ _ _ _ _ _ _ _ ga gb (by omega) (by omega) (by rw [HN_gb.out]; exact h0)).mono ?_
    rintro e w4 ⟨rfl, hb1⟩
    have ga := (ga.below hb1).more hb1.size
    have gb := (gb.below hb1).more hb1.size
    have hb := hb.trans (hb1.mono hb.size)
    clear hb1
    go_wp2_with fail
    refine (Same_any none none 0 0 0 0 [] [] _ w4.heap.size Rd.nil Rd.nil).mono ?_
    rintro e w5 ⟨rfl, hq⟩
    rw [sameB_self]
    have hb1 := hq.bel
    clear hq
    have ga := (ga.below hb1).more hb1.size
    have gb := (gb.below hb1).more hb1.size
    have hb := hb.trans (hb1.mono hb.size)
    clear hb1
    go_wp2_with fail
    refine (Same_any none none 0 0 0 0 [] [] _ w5.heap.size Rd.nil Rd.nil).mono ?_
    rintro e w6 ⟨rfl, hq⟩
    rw [sameB_self]
    have hb1 := hq.bel
    clear hq
    have ga := (ga.below hb1).more hb1.size
    have gb := (gb.below hb1).more hb1.size
    have hb := hb.trans (hb1.mono hb.size)
    clear hb1
    go_wp2
    go_ret
    exact ⟨by first | rfl | simp, hb⟩
  · go_wp2_with fail
    refine (DivMod_any _ _ _ _ _ _ _ _ _ ga gb (by omega) (by rw [HN_gb.out]; omega)).mono ?_
    rintro e w7 ⟨A_gq, n_gq, c_gq, A_gr, n_gr, c_gr, rfl, gq, gr, hb1⟩
    rw [HN_ga.out, HN_gb.out] at gq gr
    have ga := (ga.below hb1).more hb1.size
    have gb := (gb.below hb1).more hb1.size
    have hb := hb.trans (hb1.mono hb.size)
    clear hb1
    go_wp2_with fail
    refine (RDivMod_any _ _ _ _ _ _ _ _ _ ga gb (by omega) (by omega) (by rw [HN_gb.out]; omega)).mono ?_
    rintro e w8 ⟨A_gs, n_gs, c_gs, A_gt, n_gt, c_gt, rfl, gs, gt, hb1⟩
    rw [HN_ga.out, HN_gb.out] at gs gt
    have ga := (ga.below hb1).more hb1.size
    have gb := (gb.below hb1).more hb1.size
    have gq := (gq.below hb1).more hb1.size
    have gr := (gr.below hb1).more hb1.size
    have hb := hb.trans (hb1.mono hb.size)
    clear hb1
    go_wp2_with fail
    refine (Same_any _ _ _ _ _ _ _ _ _ _ gq gs).mono ?_
    rintro e w9 ⟨rfl, hq⟩
    rw [sameB_dg (rfl)]
    have hb1 := hq.bel
    clear hq
    have ga := (ga.below hb1).more hb1.size
    have gb := (gb.below hb1).more hb1.size
    have gr := (gr.below hb1).more hb1.size
    have gt := (gt.below hb1).more hb1.size
    have hb := hb.trans (hb1.mono hb.size)
    clear hb1 gq gs
    go_wp2_with fail
    refine (Same_any _ _ _ _ _ _ _ _ _ _ gr gt).mono ?_
    rintro e w10 ⟨rfl, hq⟩
    rw [sameB_dg (rfl)]
    have hb1 := hq.bel
    clear hq
    have ga := (ga.below hb1).more hb1.size
    have gb := (gb.below hb1).more hb1.size
    have hb := hb.trans (hb1.mono hb.size)
    clear hb1 gr gt
    go_wp2
    go_ret
    exact ⟨by first | rfl | simp, hb⟩
end Go.Proofs.Ytniippglkboieaa
