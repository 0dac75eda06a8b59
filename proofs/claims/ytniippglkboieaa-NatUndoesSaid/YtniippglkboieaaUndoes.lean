/-
  The law NatUndoes, as a call.
-/
import Derived.Test.YtniippglkboieaaRing
namespace Go.Proofs.Ytniippglkboieaa
open Go.RowKit
set_option linter.unusedVariables false

theorem undo_div {a b c : Nat} (h : c < b) : (a * b + c) / b = a ∧ (a * b + c) % b = c := by
  obtain ⟨h1, h2⟩ := dw_end (N := a * b + c) (D := b) (R := c) (q := a) (by omega) h
  exact ⟨h1.symm, h2.symm⟩

set_option maxHeartbeats 4000000 in
theorem NatUndoes_any (A A2 A3 : Option Addr) (n c n2 c2 n3 c3 : Nat) (l1 l2 l3 : List Int) (w : World) (ga : Rd w w.heap.size A n c l1) (gb : Rd w w.heap.size A2 n2 c2 l2) (gc : Rd w w.heap.size A3 n3 c3 l3) :
    Calls Try.prog 10 #[.slice A n c, .slice A2 n2 c2, .slice A3 n3 c3] w fun e w' => e = .returned (.bool true) ∧ Below w.heap.size w w' := by
  go_enter Try.func10, Try.ntmps10
  go_wp2_with fail
  refine (shown_any _).mono ?_
  rintro e w1 ⟨rfl, hb⟩
  have ga := (ga.below hb).more hb.size
  have gb := (gb.below hb).more hb.size
  have gc := (gc.below hb).more hb.size
  go_wp2_with fail
  refine (cut_any _ _ _ _ 16 _ _ ga (by omega)).mono ?_
  rintro e w' ⟨A2, n2, c2, rfl, hn2, ga, rfl⟩
  have m_ga := Sm.of ga hn2
  generalize hN_ga : vl Wd (l1.take 16) = N1 at *
  have HN_ga := Lib.hid hN_ga; clear hN_ga
  go_wp2_with fail
  refine (Norm_any _ _ _ _ _ _ ga (Nat.le_refl _)).mono ?_
  rintro e w3 ⟨A4, n4, c4, rfl, ga_, hb1⟩
  rw [HN_ga.out] at ga_
  have gb := (gb.below hb1).more hb1.size
  have gc := (gc.below hb1).more hb1.size
  have hb := hb.trans (hb1.mono hb.size)
  clear hb1
  clear ga
  have ga := ga_
  clear ga_
  have z_ga := ga.small m_ga
  go_wp2_with fail
  refine (cut_any _ _ _ _ 16 _ _ gb (by omega)).mono ?_
  rintro e w' ⟨A5, n5, c5, rfl, hn5, gb, rfl⟩
  have m_gb := Sm.of gb hn5
  generalize hN_gb : vl Wd (l2.take 16) = N2 at *
  have HN_gb := Lib.hid hN_gb; clear hN_gb
  go_wp2_with fail
  refine (Norm_any _ _ _ _ _ _ gb (Nat.le_refl _)).mono ?_
  rintro e w6 ⟨A7, n7, c7, rfl, gb_, hb1⟩
  rw [HN_gb.out] at gb_
  have gc := (gc.below hb1).more hb1.size
  have ga := (ga.below hb1).more hb1.size
  have hb := hb.trans (hb1.mono hb.size)
  clear hb1
  clear gb
  have gb := gb_
  clear gb_
  have z_gb := gb.small m_gb
  go_wp2_with fail
  refine (cut_any _ _ _ _ 16 _ _ gc (by omega)).mono ?_
  rintro e w' ⟨A8, n8, c8, rfl, hn8, gc, rfl⟩
  have m_gc := Sm.of gc hn8
  generalize hN_gc : vl Wd (l3.take 16) = N3 at *
  have HN_gc := Lib.hid hN_gc; clear hN_gc
  go_wp2_with fail
  refine (Norm_any _ _ _ _ _ _ gc (Nat.le_refl _)).mono ?_
  rintro e w9 ⟨A10, n10, c10, rfl, gc_, hb1⟩
  rw [HN_gc.out] at gc_
  have ga := (ga.below hb1).more hb1.size
  have gb := (gb.below hb1).more hb1.size
  have hb := hb.trans (hb1.mono hb.size)
  clear hb1
  clear gc
  have gc := gc_
  clear gc_
  have z_gc := gc.small m_gc
  go_wp2_with fail
  refine (Add_any _ _ _ _ _ _ _ _ _ ga gb (by omega) (by omega)).mono ?_
  rintro e w11 ⟨A12, n12, c12, rfl, gs, hb1⟩
  rw [vl_dg Wd2, vl_dg Wd2] at gs
  have ga := (ga.below hb1).more hb1.size
  have gb := (gb.below hb1).more hb1.size
  have gc := (gc.below hb1).more hb1.size
  have hb := hb.trans (hb1.mono hb.size)
  clear hb1
  have m_gs : Sm (N1 + N2) 17 := m_ga.add m_gb
  have z_gs := gs.small m_gs
  go_wp2_with fail
  refine (Add_any _ _ _ _ _ _ _ _ _ gb ga (by omega) (by omega)).mono ?_
  rintro e w13 ⟨A14, n14, c14, rfl, gt, hb1⟩
  rw [vl_dg Wd2, vl_dg Wd2] at gt
  have ga := (ga.below hb1).more hb1.size
  have gb := (gb.below hb1).more hb1.size
  have gc := (gc.below hb1).more hb1.size
  have gs := (gs.below hb1).more hb1.size
  have hb := hb.trans (hb1.mono hb.size)
  clear hb1
  have m_gt : Sm (N2 + N1) 17 := m_gb.add m_ga
  have z_gt := gt.small m_gt
  go_wp2_with fail
  refine (Sub_any _ _ _ _ _ _ _ _ _ gs gb (by omega) (by rw [vl_dg Wd2, vl_dg Wd2]; omega)).mono ?_
  rintro e w15 ⟨A16, n16, c16, rfl, gd, hb1⟩
  rw [vl_dg Wd2, vl_dg Wd2, Nat.add_sub_cancel] at gd
  have ga := (ga.below hb1).more hb1.size
  have gb := (gb.below hb1).more hb1.size
  have gc := (gc.below hb1).more hb1.size
  have gs := (gs.below hb1).more hb1.size
  have gt := (gt.below hb1).more hb1.size
  have hb := hb.trans (hb1.mono hb.size)
  clear hb1
  go_wp2_with fail
  refine (Same_any _ _ _ _ _ _ _ _ _ _ gd ga).mono ?_
  rintro e w17 ⟨rfl, hq⟩
  rw [sameB_dg (rfl)]
  have hb1 := hq.bel
  clear hq
  have ga := (ga.below hb1).more hb1.size
  have gb := (gb.below hb1).more hb1.size
  have gc := (gc.below hb1).more hb1.size
  have gs := (gs.below hb1).more hb1.size
  have gt := (gt.below hb1).more hb1.size
  have hb := hb.trans (hb1.mono hb.size)
  clear hb1 gd
  go_wp2_with fail
  refine (Same_any _ _ _ _ _ _ _ _ _ _ gs gt).mono ?_
  rintro e w18 ⟨rfl, hq⟩
  rw [sameB_dg (Nat.add_comm _ _)]
  have hb1 := hq.bel
  clear hq
  have ga := (ga.below hb1).more hb1.size
  have gb := (gb.below hb1).more hb1.size
  have gc := (gc.below hb1).more hb1.size
  have hb := hb.trans (hb1.mono hb.size)
  clear hb1 gs gt
  go_wp2_with fail
  refine (Cmp_any _ _ _ _ _ _ _ _ _ _ gc gb).mono ?_
  rintro e w19 ⟨rfl, hq⟩
  rw [vl_dg Wd2, vl_dg Wd2]
  have hb1 := hq.bel
  clear hq
  have ga := (ga.below hb1).more hb1.size
  have gb := (gb.below hb1).more hb1.size
  have gc := (gc.below hb1).more hb1.size
  have hb := hb.trans (hb1.mono hb.size)
  clear hb1
  by_cases hlt : N3 < N2
  · have hcm : cmpI N3 N2 = -1 := by simp [cmpI, hlt]
    rw [hcm]
    clear hcm
    go_wp2_with fail
    refine (Mul_any _ _ _ _ _ _ _ _ _ ga gb (by omega) (by omega)).mono ?_
    rintro e w20 ⟨A21, n21, c21, rfl, gp, hb1⟩
    rw [vl_dg Wd2, vl_dg Wd2] at gp
    have ga := (ga.below hb1).more hb1.size
    have gb := (gb.below hb1).more hb1.size
    have gc := (gc.below hb1).more hb1.size
    have hb := hb.trans (hb1.mono hb.size)
    clear hb1
    have m_gp : Sm (N1 * N2) (16 + 16) := m_ga.mul m_gb
    have z_gp := gp.small m_gp
    go_wp2_with fail
    refine (Add_any _ _ _ _ _ _ _ _ _ gp gc (by omega) (by omega)).mono ?_
    rintro e w22 ⟨A23, n23, c23, rfl, gx, hb1⟩
    rw [vl_dg Wd2, vl_dg Wd2] at gx
    have ga := (ga.below hb1).more hb1.size
    have gb := (gb.below hb1).more hb1.size
    have gc := (gc.below hb1).more hb1.size
    have hb := hb.trans (hb1.mono hb.size)
    clear hb1 gp
    have m_gx : Sm (N1 * N2 + N3) (16 + 16 + 1) := m_gp.add (m_gc.mono (by omega))
    have z_gx := gx.small m_gx
    go_wp2_with fail
    refine (DivMod_any _ _ _ _ _ _ _ _ _ gx gb (by omega) (by rw [vl_dg Wd2]; omega)).mono ?_
    rintro e w24 ⟨Aq25, nq25, cq25, Ar25, nr25, cr25, rfl, gq, gr, hb1⟩
    rw [vl_dg Wd2, vl_dg Wd2, (undo_div hlt).1] at gq
    rw [vl_dg Wd2, vl_dg Wd2, (undo_div hlt).2] at gr
    have ga := (ga.below hb1).more hb1.size
    have gb := (gb.below hb1).more hb1.size
    have gc := (gc.below hb1).more hb1.size
    have hb := hb.trans (hb1.mono hb.size)
    clear hb1 gx
    go_wp2_with fail
    refine (Same_any _ _ _ _ _ _ _ _ _ _ gq ga).mono ?_
    rintro e w26 ⟨rfl, hq⟩
    rw [sameB_dg (rfl)]
    have hb1 := hq.bel
    clear hq
    have ga := (ga.below hb1).more hb1.size
    have gb := (gb.below hb1).more hb1.size
    have gc := (gc.below hb1).more hb1.size
    have gr := (gr.below hb1).more hb1.size
    have hb := hb.trans (hb1.mono hb.size)
    clear hb1 gq
    go_wp2_with fail
    refine (Same_any _ _ _ _ _ _ _ _ _ _ gr gc).mono ?_
    rintro e w27 ⟨rfl, hq⟩
    rw [sameB_dg (rfl)]
    have hb1 := hq.bel
    clear hq
    have ga := (ga.below hb1).more hb1.size
    have gb := (gb.below hb1).more hb1.size
    have gc := (gc.below hb1).more hb1.size
    have hb := hb.trans (hb1.mono hb.size)
    clear hb1 gr
    go_wp2
    go_ret
    exact ⟨rfl, hb⟩
  · have hcm : 0 ≤ cmpI N3 N2 := by unfold cmpI; rw [if_neg hlt]; split <;> omega
    generalize cmpI N3 N2 = cm at *
    go_wp2
    go_ret
    exact ⟨rfl, hb⟩
end Go.Proofs.Ytniippglkboieaa
