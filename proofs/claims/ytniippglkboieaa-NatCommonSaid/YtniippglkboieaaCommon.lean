/-
  The law NatCommon, as a call.
-/
import Derived.Test.YtniippglkboieaaRing
namespace Go.Proofs.Ytniippglkboieaa
open Go.RowKit
set_option linter.unusedVariables false

theorem Sm.gcd {N M k : Nat} (h : Sm N k) (h2 : Sm M k) : Sm (Nat.gcd N M) k := by
  rcases Nat.eq_zero_or_pos N with h0 | h0
  · subst h0; rw [Nat.gcd_zero_left]; exact h2
  · exact h.le (Nat.gcd_le_left _ h0)

set_option maxHeartbeats 4000000 in
theorem NatCommon_any (A A2 A3 : Option Addr) (n c n2 c2 n3 c3 : Nat) (l1 l2 l3 : List Int) (w : World) (ga : Rd w w.heap.size A n c l1) (gb : Rd w w.heap.size A2 n2 c2 l2) (gc : Rd w w.heap.size A3 n3 c3 l3) :
    Calls Try.prog 13 #[.slice A n c, .slice A2 n2 c2, .slice A3 n3 c3] w fun e w' => e = .returned (.bool true) ∧ Below w.heap.size w w' := by
  go_enter Try.func13, Try.ntmps13
  go_wp2_with fail
  refine (shown_any _).mono ?_
  rintro e w1 ⟨rfl, hb⟩
  have ga := (ga.below hb).more hb.size
  have gb := (gb.below hb).more hb.size
  have gc := (gc.below hb).more hb.size
  go_wp2_with fail
  refine (cut_any _ _ _ _ 2 _ _ ga (by omega)).mono ?_
  rintro e w' ⟨A2, n2, c2, rfl, hn2, ga, rfl⟩
  go_wp2_with fail
  refine (cut_any _ _ _ _ 2 _ _ gb (by omega)).mono ?_
  rintro e w' ⟨A3, n3, c3, rfl, hn3, gb, rfl⟩
  go_wp2_with fail
  refine (cut_any _ _ _ _ 2 _ _ gc (by omega)).mono ?_
  rintro e w' ⟨A4, n4, c4, rfl, hn4, gc, rfl⟩
  have m_ga := Sm.of ga hn2
  generalize hN_ga : vl Wd (l1.take 2) = N1 at *
  have HN_ga := Lib.hid hN_ga; clear hN_ga
  generalize (l1.take 2) = k_ga at *
  have m_gb := Sm.of gb hn3
  generalize hN_gb : vl Wd (l2.take 2) = N2 at *
  have HN_gb := Lib.hid hN_gb; clear hN_gb
  generalize (l2.take 2) = k_gb at *
  have m_gc := Sm.of gc hn4
  generalize hN_gc : vl Wd (l3.take 2) = N3 at *
  have HN_gc := Lib.hid hN_gc; clear hN_gc
  generalize (l3.take 2) = k_gc at *
  go_wp2_with fail
  refine (Gcd_any _ _ _ _ _ _ _ _ _ ga gb (by omega) (by omega)).mono ?_
  rintro e w5 ⟨A6, n6, c6, rfl, gg, hb1⟩
  rw [HN_ga.out, HN_gb.out] at gg
  have ga := (ga.below hb1).more hb1.size
  have gb := (gb.below hb1).more hb1.size
  have gc := (gc.below hb1).more hb1.size
  have hb := hb.trans (hb1.mono hb.size)
  clear hb1
  have m_gg : Sm (Nat.gcd N1 N2) 2 := m_ga.gcd m_gb
  have z_gg := gg.small m_gg
  go_wp2_with fail
  refine (Mul_any _ _ _ _ _ _ _ _ _ ga gc (by omega) (by omega)).mono ?_
  rintro e w7 ⟨A8, n8, c8, rfl, gp, hb1⟩
  rw [HN_ga.out, HN_gc.out] at gp
  have ga := (ga.below hb1).more hb1.size
  have gb := (gb.below hb1).more hb1.size
  have gc := (gc.below hb1).more hb1.size
  have gg := (gg.below hb1).more hb1.size
  have hb := hb.trans (hb1.mono hb.size)
  clear hb1
  have m_gp : Sm (N1 * N3) (2 + 2) := m_ga.mul m_gc
  have z_gp := gp.small m_gp
  go_wp2_with fail
  refine (Mul_any _ _ _ _ _ _ _ _ _ gb gc (by omega) (by omega)).mono ?_
  rintro e w9 ⟨A10, n10, c10, rfl, gq, hb1⟩
  rw [HN_gb.out, HN_gc.out] at gq
  have ga := (ga.below hb1).more hb1.size
  have gb := (gb.below hb1).more hb1.size
  have gc := (gc.below hb1).more hb1.size
  have gg := (gg.below hb1).more hb1.size
  have gp := (gp.below hb1).more hb1.size
  have hb := hb.trans (hb1.mono hb.size)
  clear hb1
  have m_gq : Sm (N2 * N3) (2 + 2) := m_gb.mul m_gc
  have z_gq := gq.small m_gq
  go_wp2_with fail
  refine (Gcd_any _ _ _ _ _ _ _ _ _ gp gq (by omega) (by omega)).mono ?_
  rintro e w11 ⟨A12, n12, c12, rfl, gh, hb1⟩
  rw [vl_dg Wd2, vl_dg Wd2] at gh
  have ga := (ga.below hb1).more hb1.size
  have gb := (gb.below hb1).more hb1.size
  have gc := (gc.below hb1).more hb1.size
  have gg := (gg.below hb1).more hb1.size
  have hb := hb.trans (hb1.mono hb.size)
  clear hb1 gp gq
  go_wp2_with fail
  refine (Mul_any _ _ _ _ _ _ _ _ _ gg gc (by omega) (by omega)).mono ?_
  rintro e w13 ⟨A14, n14, c14, rfl, gx, hb1⟩
  rw [vl_dg Wd2, HN_gc.out] at gx
  have ga := (ga.below hb1).more hb1.size
  have gb := (gb.below hb1).more hb1.size
  have gc := (gc.below hb1).more hb1.size
  have gg := (gg.below hb1).more hb1.size
  have gh := (gh.below hb1).more hb1.size
  have hb := hb.trans (hb1.mono hb.size)
  clear hb1
  go_wp2_with fail
  refine (Same_any _ _ _ _ _ _ _ _ _ _ gh gx).mono ?_
  rintro e w15 ⟨rfl, hq⟩
  rw [sameB_dg (Nat.gcd_mul_right _ _ _)]
  have hb1 := hq.bel
  clear hq
  have ga := (ga.below hb1).more hb1.size
  have gb := (gb.below hb1).more hb1.size
  have gc := (gc.below hb1).more hb1.size
  have gg := (gg.below hb1).more hb1.size
  have hb := hb.trans (hb1.mono hb.size)
  clear hb1 gh gx
  generalize hG : Nat.gcd N1 N2 = D at *
  have HG := Lib.hid hG; clear hG
  have hlg := gg.len
  by_cases h0 : n6 = 0
  · subst h0
    have hD : D = 0 := (dg_eq_nil Wd2).1 (List.eq_nil_of_length_eq_zero hlg)
    have hN1 : N1 = 0 := Nat.eq_zero_of_gcd_eq_zero_left (HG.out.trans hD)
    have hN2 : N2 = 0 := Nat.eq_zero_of_gcd_eq_zero_right (HG.out.trans hD)
    clear hlg
    have H1 := Lib.hid hN1; have H2 := Lib.hid hN2; clear hN1 hN2 hD
    go_wp2_with fail
    refine (Norm_any _ _ _ _ _ _ ga (Nat.le_refl _)).mono ?_
    rintro e w16 ⟨A17, n17, c17, rfl, gz17, hb1⟩
    rw [HN_ga.out, H1.out, dg_zero] at gz17
    obtain rfl : 0 = n17 := gz17.len
    have ga := (ga.below hb1).more hb1.size
    have gb := (gb.below hb1).more hb1.size
    have gc := (gc.below hb1).more hb1.size
    have gg := (gg.below hb1).more hb1.size
    have hb := hb.trans (hb1.mono hb.size)
    clear hb1
    go_wp2_with fail
    refine (Norm_any _ _ _ _ _ _ gb (Nat.le_refl _)).mono ?_
    rintro e w18 ⟨A19, n19, c19, rfl, gz19, hb1⟩
    rw [HN_gb.out, H2.out, dg_zero] at gz19
    obtain rfl : 0 = n19 := gz19.len
    have ga := (ga.below hb1).more hb1.size
    have gb := (gb.below hb1).more hb1.size
    have gc := (gc.below hb1).more hb1.size
    have gg := (gg.below hb1).more hb1.size
    have hb := hb.trans (hb1.mono hb.size)
    clear hb1
    go_wp2
    go_ret
    exact ⟨rfl, hb⟩
  · have hD : 0 < D := by
      rcases Nat.eq_zero_or_pos D with h | h
      · exfalso; rw [h, dg_zero] at hlg; exact h0 hlg.symm
      · exact h
    have hb0 : ((n6 : Int) == 0) = false := by simp; omega
    have d1 : N1 % D = 0 := Nat.mod_eq_zero_of_dvd (HG.out ▸ Nat.gcd_dvd_left N1 N2)
    have d2 : N2 % D = 0 := Nat.mod_eq_zero_of_dvd (HG.out ▸ Nat.gcd_dvd_right N1 N2)
    have H1 := Lib.hid d1; have H2 := Lib.hid d2; clear d1 d2 hlg
    go_wp2_with fail
    refine (DivMod_any _ _ _ _ _ _ _ _ _ ga gg (by omega) (by rw [vl_dg Wd2]; exact hD)).mono ?_
    rintro e w20 ⟨Aq21, nq21, cq21, Ar21, nr21, cr21, rfl, gq21, gr21, hb1⟩
    rw [HN_ga.out, vl_dg Wd2, H1.out, dg_zero] at gr21
    obtain rfl : 0 = nr21 := gr21.len
    have ga := (ga.below hb1).more hb1.size
    have gb := (gb.below hb1).more hb1.size
    have gc := (gc.below hb1).more hb1.size
    have gg := (gg.below hb1).more hb1.size
    have hb := hb.trans (hb1.mono hb.size)
    clear hb1
    go_wp2_with fail
    refine (DivMod_any _ _ _ _ _ _ _ _ _ gb gg (by omega) (by rw [vl_dg Wd2]; exact hD)).mono ?_
    rintro e w22 ⟨Aq23, nq23, cq23, Ar23, nr23, cr23, rfl, gq23, gr23, hb1⟩
    rw [HN_gb.out, vl_dg Wd2, H2.out, dg_zero] at gr23
    obtain rfl : 0 = nr23 := gr23.len
    have ga := (ga.below hb1).more hb1.size
    have gb := (gb.below hb1).more hb1.size
    have gc := (gc.below hb1).more hb1.size
    have gg := (gg.below hb1).more hb1.size
    have hb := hb.trans (hb1.mono hb.size)
    clear hb1
    go_wp2
    go_ret
    exact ⟨rfl, hb⟩
end Go.Proofs.Ytniippglkboieaa
