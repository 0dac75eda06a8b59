/-
  The law NatSums, as a call.
-/
import Derived.Test.YtniippglkboieaaRmul
import Derived.Test.YtniippglkboieaaStands
namespace Go.Proofs.Ytniippglkboieaa
open Go.RowKit
set_option linter.unusedVariables false

set_option maxHeartbeats 8000000 in
theorem NatSums_any (A A2 : Option Addr) (n c n2 c2 : Nat) (l1 l2 : List Int) (w : World) (ga : Rd w w.heap.size A n c l1) (gb : Rd w w.heap.size A2 n2 c2 l2) :
    Calls Try.prog 4 #[.slice A n c, .slice A2 n2 c2] w fun e w' => e = .returned (.bool true) ∧ Below w.heap.size w w' := by
  go_enter Try.func4, Try.ntmps4
  go_wp2_with fail
  refine (shown_any _).mono ?_
  rintro e w1 ⟨rfl, hb⟩
  have ga := (ga.below hb).more hb.size
  have gb := (gb.below hb).more hb.size
  go_wp2_with fail
  refine (cut_any _ _ _ _ 40 _ _ ga (by omega)).mono ?_
  rintro e w' ⟨A2, n2, c2, rfl, hn2, ga, rfl⟩
  go_wp2_with fail
  refine (cut_any _ _ _ _ 40 _ _ gb (by omega)).mono ?_
  rintro e w' ⟨A3, n3, c3, rfl, hn3, gb, rfl⟩
  have m_ga := Sm.of ga hn2
  generalize hN_ga : vl Wd (l1.take 40) = N1 at *
  have HN_ga := Lib.hid hN_ga; clear hN_ga
  generalize (l1.take 40) = k_ga at *
  have m_gb := Sm.of gb hn3
  generalize hN_gb : vl Wd (l2.take 40) = N2 at *
  have HN_gb := Lib.hid hN_gb; clear hN_gb
  generalize (l2.take 40) = k_gb at *
  have hlima := ga.lim
  have hlimb := gb.lim
  have hka := ga.len
  have hkb := gb.len
  have HKA := Lib.hid hka; have HKB := Lib.hid hkb; clear hka hkb
  go_wp2_with (first | (at_builtin; refine wp_all64 rfl (.tmp 21) (.tmp 22) rfl w1.heap.size _ [] rfl (Ow.empty w1 w1.heap.size (Nat.le_refl _)) A2 n2 c2 _ _ rfl (ga.alloc (Nat.le_refl _) _) (by simp) (by omega) (by simp) ?_; intro vgx wx hogx hbgx; rw [List.nil_append] at hogx; have hbgx := ((Below.refl _ _).alloc (Nat.le_refl _) _).trans hbgx; obtain ⟨A_gx, n_gx, c_gx, rfl, hn_gx, gx⟩ := hogx.some_rd hlima (by have := HKA.out; omega); clear hogx; have gb1 := (gb.below hbgx).more hbgx.size) | (at_builtin; refine wp_all64 rfl (.tmp 24) (.tmp 25) rfl wx.heap.size _ [] rfl (Ow.empty wx wx.heap.size (Nat.le_refl _)) A3 n3 c3 _ _ rfl (gb1.alloc (Nat.le_refl _) _) (by simp) (by omega) (by simp) ?_; intro vgy wy hogy hbgy; rw [List.nil_append] at hogy; have hbgy := ((Below.refl _ _).alloc (Nat.le_refl _) _).trans hbgy; obtain ⟨A_gy, n_gy, c_gy, rfl, hn_gy, gy⟩ := hogy.some_rd hlimb (by have := HKB.out; omega); clear hogy))
  have hb1 := hbgx.trans (hbgy.mono hbgx.size)
  have gx := (gx.below hbgy).more hbgy.size
  clear gb1 hbgx hbgy
  have ga := (ga.below hb1).more hb1.size
  have gb := (gb.below hb1).more hb1.size
  have hb := hb.trans (hb1.mono hb.size)
  clear hb1
  go_wp2_with fail
  refine (Add_any _ _ _ _ _ _ _ _ _ gx gy (by omega) (by omega)).mono ?_
  rintro e w4 ⟨A_gs, n_gs, c_gs, rfl, gs, hb1⟩
  rw [HN_ga.out, HN_gb.out] at gs
  have ga := (ga.below hb1).more hb1.size
  have gb := (gb.below hb1).more hb1.size
  have gx := (gx.below hb1).more hb1.size
  have gy := (gy.below hb1).more hb1.size
  have hb := hb.trans (hb1.mono hb.size)
  clear hb1
  go_wp2_with fail
  refine (RAdd_any _ _ _ _ _ _ _ _ _ ga gb (by omega) (by omega)).mono ?_
  rintro e w5 ⟨A_gt, n_gt, c_gt, rfl, gt, hb1⟩
  rw [HN_ga.out, HN_gb.out] at gt
  have ga := (ga.below hb1).more hb1.size
  have gb := (gb.below hb1).more hb1.size
  have gx := (gx.below hb1).more hb1.size
  have gy := (gy.below hb1).more hb1.size
  have gs := (gs.below hb1).more hb1.size
  have hb := hb.trans (hb1.mono hb.size)
  clear hb1
  go_wp2_with fail
  refine (Same_any _ _ _ _ _ _ _ _ _ _ gs gt).mono ?_
  rintro e w6 ⟨rfl, hq⟩
  rw [sameB_dg (rfl)]
  have hb1 := hq.bel
  clear hq
  have ga := (ga.below hb1).more hb1.size
  have gb := (gb.below hb1).more hb1.size
  have gx := (gx.below hb1).more hb1.size
  have gy := (gy.below hb1).more hb1.size
  have hb := hb.trans (hb1.mono hb.size)
  clear hb1 gs gt
  by_cases hlt : N1 < N2
  · go_wp2_with fail
    refine (Sub_less _ _ _ _ _ _ _ _ _ gx gy (by omega) (by rw [HN_ga.out, HN_gb.out]; exact hlt)).mono ?_
    rintro e w7 ⟨rfl, hq⟩
    have hb1 := hq.bel
    clear hq
    have ga := (ga.below hb1).more hb1.size
    have gb := (gb.below hb1).more hb1.size
    have gx := (gx.below hb1).more hb1.size
    have gy := (gy.below hb1).more hb1.size
    have hb := hb.trans (hb1.mono hb.size)
    clear hb1
    go_wp2_with fail
    refine (RSub_less _ _ _ _ _ _ _ _ _ ga gb (by omega) (by omega) (by rw [HN_ga.out, HN_gb.out]; exact hlt)).mono ?_
    rintro e w8 ⟨rfl, hb1⟩
    have ga := (ga.below hb1).more hb1.size
    have gb := (gb.below hb1).more hb1.size
    have gx := (gx.below hb1).more hb1.size
    have gy := (gy.below hb1).more hb1.size
    have hb := hb.trans (hb1.mono hb.size)
    clear hb1
    go_wp2_with fail
    refine (Same_any none none 0 0 0 0 [] [] _ w8.heap.size Rd.nil Rd.nil).mono ?_
    rintro e w9 ⟨rfl, hq⟩
    rw [sameB_self]
    have hb1 := hq.bel
    clear hq
    have ga := (ga.below hb1).more hb1.size
    have gb := (gb.below hb1).more hb1.size
    have gx := (gx.below hb1).more hb1.size
    have gy := (gy.below hb1).more hb1.size
    have hb := hb.trans (hb1.mono hb.size)
    clear hb1
    go_wp2_with fail
    refine (Mul_any _ _ _ _ _ _ _ _ _ gx gy (by omega) (by omega)).mono ?_
    rintro e w10 ⟨A_gp, n_gp, c_gp, rfl, gp, hb1⟩
    rw [HN_ga.out, HN_gb.out] at gp
    have ga := (ga.below hb1).more hb1.size
    have gb := (gb.below hb1).more hb1.size
    have gx := (gx.below hb1).more hb1.size
    have gy := (gy.below hb1).more hb1.size
    have hb := hb.trans (hb1.mono hb.size)
    clear hb1
    go_wp2_with fail
    refine (RMul_any _ _ _ _ _ _ _ _ _ ga gb (by omega) (by omega)).mono ?_
    rintro e w11 ⟨A_gq, n_gq, c_gq, rfl, gq, hb1⟩
    rw [HN_ga.out, HN_gb.out] at gq
    have ga := (ga.below hb1).more hb1.size
    have gb := (gb.below hb1).more hb1.size
    have gx := (gx.below hb1).more hb1.size
    have gy := (gy.below hb1).more hb1.size
    have gp := (gp.below hb1).more hb1.size
    have hb := hb.trans (hb1.mono hb.size)
    clear hb1
    go_wp2_with fail
    refine (Same_any _ _ _ _ _ _ _ _ _ _ gp gq).mono ?_
    rintro e w12 ⟨rfl, hq⟩
    rw [sameB_dg (rfl)]
    have hb1 := hq.bel
    clear hq
    have ga := (ga.below hb1).more hb1.size
    have gb := (gb.below hb1).more hb1.size
    have gx := (gx.below hb1).more hb1.size
    have gy := (gy.below hb1).more hb1.size
    have hb := hb.trans (hb1.mono hb.size)
    clear hb1 gp gq
    go_wp2_with fail
    refine (Same_any _ _ _ _ _ _ _ _ _ _ gx ga).mono ?_
    rintro e w13 ⟨rfl, hq⟩
    rw [sameB_self]
    have hb1 := hq.bel
    clear hq
    have ga := (ga.below hb1).more hb1.size
    have gb := (gb.below hb1).more hb1.size
    have gx := (gx.below hb1).more hb1.size
    have gy := (gy.below hb1).more hb1.size
    have hb := hb.trans (hb1.mono hb.size)
    clear hb1
    go_wp2_with fail
    refine (Same_any _ _ _ _ _ _ _ _ _ _ gy gb).mono ?_
    rintro e w14 ⟨rfl, hq⟩
    rw [sameB_self]
    have hb1 := hq.bel
    clear hq
    have ga := (ga.below hb1).more hb1.size
    have gb := (gb.below hb1).more hb1.size
    have gx := (gx.below hb1).more hb1.size
    have gy := (gy.below hb1).more hb1.size
    have hb := hb.trans (hb1.mono hb.size)
    clear hb1
    go_wp2
    go_ret
    exact ⟨by first | rfl | simp, hb⟩
  · go_wp2_with fail
    refine (Sub_any _ _ _ _ _ _ _ _ _ gx gy (by omega) (by rw [HN_ga.out, HN_gb.out]; omega)).mono ?_
    rintro e w15 ⟨A_gd, n_gd, c_gd, rfl, gd, hb1⟩
    rw [HN_ga.out, HN_gb.out] at gd
    have ga := (ga.below hb1).more hb1.size
    have gb := (gb.below hb1).more hb1.size
    have gx := (gx.below hb1).more hb1.size
    have gy := (gy.below hb1).more hb1.size
    have hb := hb.trans (hb1.mono hb.size)
    clear hb1
    go_wp2_with fail
    refine (RSub_any _ _ _ _ _ _ _ _ _ ga gb (by omega) (by omega) (by rw [HN_ga.out, HN_gb.out]; omega)).mono ?_
    rintro e w16 ⟨A_ge, n_ge, c_ge, rfl, ge, hb1⟩
    rw [HN_ga.out, HN_gb.out] at ge
    have ga := (ga.below hb1).more hb1.size
    have gb := (gb.below hb1).more hb1.size
    have gx := (gx.below hb1).more hb1.size
    have gy := (gy.below hb1).more hb1.size
    have gd := (gd.below hb1).more hb1.size
    have hb := hb.trans (hb1.mono hb.size)
    clear hb1
    go_wp2_with fail
    refine (Same_any _ _ _ _ _ _ _ _ _ _ gd ge).mono ?_
    rintro e w17 ⟨rfl, hq⟩
    rw [sameB_dg (rfl)]
    have hb1 := hq.bel
    clear hq
    have ga := (ga.below hb1).more hb1.size
    have gb := (gb.below hb1).more hb1.size
    have gx := (gx.below hb1).more hb1.size
    have gy := (gy.below hb1).more hb1.size
    have hb := hb.trans (hb1.mono hb.size)
    clear hb1 gd ge
    go_wp2_with fail
    refine (Mul_any _ _ _ _ _ _ _ _ _ gx gy (by omega) (by omega)).mono ?_
    rintro e w18 ⟨A_gp, n_gp, c_gp, rfl, gp, hb1⟩
    rw [HN_ga.out, HN_gb.out] at gp
    have ga := (ga.below hb1).more hb1.size
    have gb := (gb.below hb1).more hb1.size
    have gx := (gx.below hb1).more hb1.size
    have gy := (gy.below hb1).more hb1.size
    have hb := hb.trans (hb1.mono hb.size)
    clear hb1
    go_wp2_with fail
    refine (RMul_any _ _ _ _ _ _ _ _ _ ga gb (by omega) (by omega)).mono ?_
    rintro e w19 ⟨A_gq, n_gq, c_gq, rfl, gq, hb1⟩
    rw [HN_ga.out, HN_gb.out] at gq
    have ga := (ga.below hb1).more hb1.size
    have gb := (gb.below hb1).more hb1.size
    have gx := (gx.below hb1).more hb1.size
    have gy := (gy.below hb1).more hb1.size
    have gp := (gp.below hb1).more hb1.size
    have hb := hb.trans (hb1.mono hb.size)
    clear hb1
    go_wp2_with fail
    refine (Same_any _ _ _ _ _ _ _ _ _ _ gp gq).mono ?_
    rintro e w20 ⟨rfl, hq⟩
    rw [sameB_dg (rfl)]
    have hb1 := hq.bel
    clear hq
    have ga := (ga.below hb1).more hb1.size
    have gb := (gb.below hb1).more hb1.size
    have gx := (gx.below hb1).more hb1.size
    have gy := (gy.below hb1).more hb1.size
    have hb := hb.trans (hb1.mono hb.size)
    clear hb1 gp gq
    go_wp2_with fail
    refine (Same_any _ _ _ _ _ _ _ _ _ _ gx ga).mono ?_
    rintro e w21 ⟨rfl, hq⟩
    rw [sameB_self]
    have hb1 := hq.bel
    clear hq
    have ga := (ga.below hb1).more hb1.size
    have gb := (gb.below hb1).more hb1.size
    have gx := (gx.below hb1).more hb1.size
    have gy := (gy.below hb1).more hb1.size
    have hb := hb.trans (hb1.mono hb.size)
    clear hb1
    go_wp2_with fail
    refine (Same_any _ _ _ _ _ _ _ _ _ _ gy gb).mono ?_
    rintro e w22 ⟨rfl, hq⟩
    rw [sameB_self]
    have hb1 := hq.bel
    clear hq
    have ga := (ga.below hb1).more hb1.size
    have gb := (gb.below hb1).more hb1.size
    have gx := (gx.below hb1).more hb1.size
    have gy := (gy.below hb1).more hb1.size
    have hb := hb.trans (hb1.mono hb.size)
    clear hb1
    go_wp2
    go_ret
    exact ⟨by first | rfl | simp, hb⟩
end Go.Proofs.Ytniippglkboieaa
