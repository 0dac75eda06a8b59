/-
  The law BitsOrder, as a call.
-/
import Derived.Test.YthbodamihiddhaaDoorBshown
namespace Go.Proofs.YthbodamihiddhaaDoor
open Go.RowKit
set_option linter.unusedVariables false

/-- The number of a pattern that is not negative, in normal form. -/
theorem ord_val {a : Nat} (h : a < 9218868437227405312) {Q E : Int} (hQ : od (zi (sgN a) (mnN a)) = Q) (hE : nE (zi (sgN a) (mnN a)) (exN a) = E) : In E ∧ vd Q E = (pvN a : Int) ∧ fdN a ≠ 2047 := by
  have f := fd_small h
  have hx := exN_num (b := a) (by omega)
  have hlt := mnN_lt a
  rw [f.2.2] at hQ hE
  have hz : zi false (mnN a) = (mnN a : Int) := rfl
  rw [hz] at hQ hE
  subst hQ hE
  refine ⟨nE_in (k := 53) (by unfold Bt; omega) (by omega) (by omega) (by omega), ?_, by omega⟩
  rw [vd_nf (by omega), vd_pv]
theorem ord_cmp {a b : Nat} (h : a < 9218868437227405312) (h2 : b < 9218868437227405312) {Q E R F : Int} (hE : In E) (hF : In F) (hQ : vd Q E = (pvN a : Int)) (hR : vd R F = (pvN b : Int)) :
    (a < b → sgnI (alP Q E F - alQ R E F) = -1) ∧ (b < a → sgnI (alP Q E F - alQ R E F) = 1) ∧ (a = b → sgnI (alP Q E F - alQ R E F) = 0) := by
  rw [cmp_vd hE hF, hQ, hR]
  refine ⟨fun hl => ?_, fun hl => ?_, fun hl => ?_⟩
  · have := pv_mono hl h2
    unfold sgnI; rw [if_pos (by omega)]
  · have := pv_mono hl h
    unfold sgnI; rw [if_neg (by omega), if_neg (by omega)]
  · subst hl; rw [Int.sub_self]; rfl
/-- The step to the next pattern's number. -/
theorem ord_step {a : Nat} (h : a + 1 < 9218868437227405312) {Q E R F : Int} (hE : In E) (hF : In F) (hQ : vd Q E = (pvN a : Int)) (hR : vd R F = (pvN (a + 1) : Int)) :
    od (alP R F E - alQ Q F E) = 1 ∧ nE (alP R F E - alQ Q F E) (alE F E) = exN a := by
  have h1 := sub_vd (X := R) (Y := Q) hF hE
  have hx := exN_in a
  have h2 : vd 1 (exN a) = vd R F - vd Q E := by
    rw [hQ, hR, pv_succ h]
    unfold vd
    rw [Int.one_mul, pow_cast]
    omega
  rw [← h2] at h1
  have h3 := vd_same (alE_in F E).1 (by omega) h1
  rw [od_one, nE_one] at h3
  exact h3
theorem ord_ex {a : Nat} (h : fdN a ≠ 2047) : (nmN a = true → ((fdN a : Nat) : Int) - 1023 - 52 = exN a) ∧ (nmN a = false → exN a = -1074) := by
  have := fdN_lt a
  refine ⟨fun hn => ?_, fun hn => ?_⟩
  · have h1 : fdN a ≠ 0 ∧ fdN a ≠ 2047 := by unfold nmN at hn; simpa using hn
    unfold exN; rw [if_neg h1.1]; omega
  · have h1 : fdN a = 0 := Classical.byContradiction fun hc => by unfold nmN at hn; simp [hc, h] at hn
    unfold exN; rw [if_pos h1]
theorem lm_nat {x : Int} (h : Lm x) : ∃ b : Nat, x = b ∧ b < 18446744073709551616 := by
  unfold Lm at h; rw [Wd_eq] at h
  exact ⟨x.toNat, by omega, by omega⟩
theorem Zr.zero (w : World) : Zr w false none 0 0 0 2 := (Zn.nil0 w 2).zr

set_option maxRecDepth 100000 in
set_option maxHeartbeats 64000000 in
theorem BitsOrder_any {x y : Int} {w : World} (hT : Tab w) (hx : Lm x) (hy : Lm y) :
    Calls Tryd.prog 5 #[.int .u64 x, .int .u64 y] w fun e w' => e = .returned (.bool true) ∧ Below w.heap.size w w' := by
  obtain ⟨a0, rfl, ha0⟩ := lm_nat hx
  obtain ⟨b0, rfl, hb0⟩ := lm_nat hy
  clear hx hy
  obtain ⟨a, haa⟩ : ∃ a : Nat, a0 % 9218868437227405312 = a := ⟨_, rfl⟩
  obtain ⟨b, hbb⟩ : ∃ b : Nat, b0 % 9218868437227405312 = b := ⟨_, rfl⟩
  have ha : a < 9218868437227405312 := by omega
  have hbl : b < 9218868437227405312 := by omega
  have hpa : (a0 : Int).tmod 9218868437227405312 = (a : Int) := by rw [Int.tmod_eq_emod_of_nonneg (by omega)]; omega
  have hpb : (b0 : Int).tmod 9218868437227405312 = (b : Int) := by rw [Int.tmod_eq_emod_of_nonneg (by omega)]; omega
  obtain ⟨Q, hQ⟩ : ∃ Q, od (zi (sgN a) (mnN a)) = Q := ⟨_, rfl⟩
  obtain ⟨E, hE⟩ : ∃ E, nE (zi (sgN a) (mnN a)) (exN a) = E := ⟨_, rfl⟩
  obtain ⟨R, hR⟩ : ∃ R, od (zi (sgN b) (mnN b)) = R := ⟨_, rfl⟩
  obtain ⟨F, hF⟩ : ∃ F, nE (zi (sgN b) (mnN b)) (exN b) = F := ⟨_, rfl⟩
  obtain ⟨i1, i2, i3⟩ := ord_val ha hQ hE
  obtain ⟨j1, j2, j3⟩ := ord_val hbl hR hF
  have hcm := ord_cmp ha hbl i1 j1 i2 j2
  have hwa : IntKind.u64.wrap ((a : Int) + 1) = ((a + 1 : Nat) : Int) := by rw [wrap_u64]; omega
  have hex := ord_ex i3
  have hfl := fdN_lt a
  have HQ := Lib.hid (And.intro hQ hE); have HR := Lib.hid (And.intro hR hF)
  have HL := Lib.hid (And.intro (show a < 18446744073709551616 by omega) (show b < 18446744073709551616 by omega))
  have HF := Lib.hid (And.intro i3 j3)
  clear haa hbb hQ hE hR hF ha0 hb0 j3
  obtain ⟨z1, hz1⟩ : ∃ z1 : Nat, a + 1 = z1 := ⟨_, rfl⟩
  rw [hz1] at hwa
  obtain ⟨C, hC⟩ : ∃ C, sgnI (alP Q E F - alQ R E F) = C := ⟨_, rfl⟩
  rw [hC] at hcm
  have HC := Lib.hid hC; clear hC
  by_cases hz : a + 1 < 9218868437227405312
  · have hfz := fd_small (b := z1) (by omega)
    obtain ⟨U, hU⟩ : ∃ U, od (zi (sgN z1) (mnN z1)) = U := ⟨_, rfl⟩
    obtain ⟨G, hG⟩ : ∃ G, nE (zi (sgN z1) (mnN z1)) (exN z1) = G := ⟨_, rfl⟩
    obtain ⟨k1, k2, k3⟩ := ord_val (a := z1) (by omega) hU hG
    rw [← hz1] at k2
    have hst := ord_step hz i1 k1 i2 k2
    have hxi := exN_in a
    have hin : In (exN a) := ⟨by omega, by omega⟩
    have hof : od (cM 1 (exN a)) = 1 ∧ nE (cM 1 (exN a)) (cE (exN a)) = exN a := by rw [(c_yes (X := 1) hin).1, (c_yes (X := 1) hin).2, nE_one]; exact ⟨od_one, rfl⟩
    have hc0 : sgnI (alP 1 (exN a) (exN a) - alQ 1 (exN a) (exN a)) = 0 := by rw [cmp_vd hin hin, Int.sub_self]; rfl
    have hla : ((a : Int) == 9218868437227405311) = false := by rw [beq_eq_false_iff_ne]; omega
    have HU := Lib.hid (And.intro hU hG); have HST := Lib.hid hst; have HOF := Lib.hid hof; have HC0 := Lib.hid hc0; have HK := Lib.hid (And.intro k3 (show z1 < 18446744073709551616 by omega))
    clear hU hG hst hof hc0 k1 k2 k3 hfz i1 i2 i3 j1 j2 hin ha hbl hz hz1
    cases hn : nmN a
    · have hwn : IntKind.i64.wrap (-1074) = exN a := by rw [hex.2 hn]; rfl
      have HN := Lib.hid hn; clear hn hex
      rcases Nat.lt_trichotomy a b with hl | hl | hl
      · have hg := hcm.1 hl
        have HG := Lib.hid hg; clear hg hcm
        have hb := Below.refl w.heap.size w
        go_enter Tryd.func5, Tryd.ntmps5
        go_wp2_with fail
        with_reducible refine (Bshown_any hT).mono ?_
        rintro e v1 ⟨rfl, hb1⟩
        replace hT := hT.keep hb1
        replace hb := bthen hb hb1
        clear hb1
        go_wp2_with fail
        with_reducible refine (Value_any _ a rfl HL.out.1 hT HF.out.1).mono ?_
        rintro e v2 ⟨A1, n1, c1, rfl, z_x, hb1⟩
        replace hT := hT.keep hb1
        replace hb := bthen hb hb1
        clear hb1
        rw [HQ.out.1] at z_x
        rw [HQ.out.1, HQ.out.2]
        go_wp2_with fail
        have hb1 := below_alloc v2 (.cells #[.bool (ngB Q), .slice A1 n1 c1, .int .i64 E] 30)
        have x_x := Dx.new v2 (ngB Q) A1 n1 c1 E
        have e_x : w.heap.size ≤ v2.heap.size := hb.size
        replace hT := hT.keep hb1
        replace z_x := z_x.keep hb1
        replace hb := bthen hb hb1
        clear hb1
        generalize v2.alloc (.cells #[.bool (ngB Q), .slice A1 n1 c1, .int .i64 E] 30) = v3 at *
        have q_x0 := x_x.c0; have q_x1 := x_x.c1; have f_x0 := x_x.fr 0; have f_x1 := x_x.fr 1; have q_x2 := x_x.c2; have f_x2 := x_x.fr 2
        skip
        with_reducible refine (Value_any _ b rfl HL.out.2 hT HF.out.2).mono ?_
        rintro e v4 ⟨A2, n2, c2, rfl, z_y, hb1⟩
        replace x_x := x_x.keep hb1
        replace hT := hT.keep hb1
        replace z_x := z_x.keep hb1
        replace hb := bthen hb hb1
        clear hb1
        replace q_x0 := x_x.c0; replace q_x1 := x_x.c1; replace f_x0 := x_x.fr 0; replace f_x1 := x_x.fr 1; replace q_x2 := x_x.c2; replace f_x2 := x_x.fr 2
        rw [HR.out.1] at z_y
        rw [HR.out.1, HR.out.2]
        have y_x := (x_x.alloc (.cells #[.bool (ngB R), .slice A2 n2 c2, .int .i64 F] 30)); have yq_x0 := y_x.c0; have yq_x1 := y_x.c1; have yq_x2 := y_x.c2
        go_wp2_with fail
        clear y_x yq_x0 yq_x1 yq_x2
        have hb1 := below_alloc v4 (.cells #[.bool (ngB R), .slice A2 n2 c2, .int .i64 F] 30)
        have l_x_y := x_x.lt
        have x_y := Dx.new v4 (ngB R) A2 n2 c2 F
        have e_y : w.heap.size ≤ v4.heap.size := hb.size
        replace x_x := x_x.keep hb1
        replace hT := hT.keep hb1
        replace z_x := z_x.keep hb1
        replace z_y := z_y.keep hb1
        replace hb := bthen hb hb1
        clear hb1
        replace q_x0 := x_x.c0; replace q_x1 := x_x.c1; replace f_x0 := x_x.fr 0; replace f_x1 := x_x.fr 1; replace q_x2 := x_x.c2; replace f_x2 := x_x.fr 2
        clear q_x0 q_x1 f_x0 f_x1 q_x2 f_x2
        generalize v4.alloc (.cells #[.bool (ngB R), .slice A2 n2 c2, .int .i64 F] 30) = v5 at *
        have q_x0 := x_x.c0; have q_x1 := x_x.c1; have f_x0 := x_x.fr 0; have f_x1 := x_x.fr 1; have q_x2 := x_x.c2; have f_x2 := x_x.fr 2
        have q_y0 := x_y.c0; have q_y1 := x_y.c1; have f_y0 := x_y.fr 0; have f_y1 := x_y.fr 1; have q_y2 := x_y.c2; have f_y2 := x_y.fr 2
        skip
        with_reducible refine (Binade_no _ a rfl HL.out.1 HN.out).mono ?_
        rintro e v6 ⟨rfl, hb1⟩
        replace x_x := x_x.keep hb1
        replace x_y := x_y.keep hb1
        replace hT := hT.keep hb1
        replace z_x := z_x.keep hb1
        replace z_y := z_y.keep hb1
        replace hb := bthen hb hb1
        clear hb1
        replace q_x0 := x_x.c0; replace q_x1 := x_x.c1; replace f_x0 := x_x.fr 0; replace f_x1 := x_x.fr 1; replace q_x2 := x_x.c2; replace f_x2 := x_x.fr 2
        replace q_y0 := x_y.c0; replace q_y1 := x_y.c1; replace f_y0 := x_y.fr 0; replace f_y1 := x_y.fr 1; replace q_y2 := x_y.c2; replace f_y2 := x_y.fr 2
        go_wp2_with fail
        with_reducible refine (Value_any _ z1 rfl HK.out.2 hT HK.out.1).mono ?_
        rintro e v7 ⟨A3, n3, c3, rfl, z_z, hb1⟩
        replace x_x := x_x.keep hb1
        replace x_y := x_y.keep hb1
        replace hT := hT.keep hb1
        replace z_x := z_x.keep hb1
        replace z_y := z_y.keep hb1
        replace hb := bthen hb hb1
        clear hb1
        replace q_x0 := x_x.c0; replace q_x1 := x_x.c1; replace f_x0 := x_x.fr 0; replace f_x1 := x_x.fr 1; replace q_x2 := x_x.c2; replace f_x2 := x_x.fr 2
        replace q_y0 := x_y.c0; replace q_y1 := x_y.c1; replace f_y0 := x_y.fr 0; replace f_y1 := x_y.fr 1; replace q_y2 := x_y.c2; replace f_y2 := x_y.fr 2
        rw [HU.out.1] at z_z
        rw [HU.out.1, HU.out.2]
        have y_x := (x_x.alloc (.cells #[.bool (ngB U), .slice A3 n3 c3, .int .i64 G] 30)); have yq_x0 := y_x.c0; have yq_x1 := y_x.c1; have yq_x2 := y_x.c2
        have y_y := (x_y.alloc (.cells #[.bool (ngB U), .slice A3 n3 c3, .int .i64 G] 30)); have yq_y0 := y_y.c0; have yq_y1 := y_y.c1; have yq_y2 := y_y.c2
        go_wp2_with fail
        clear y_x yq_x0 yq_x1 yq_x2 y_y yq_y0 yq_y1 yq_y2
        have hb1 := below_alloc v7 (.cells #[.bool (ngB U), .slice A3 n3 c3, .int .i64 G] 30)
        have l_x_z := x_x.lt
        have l_y_z := x_y.lt
        have x_z := Dx.new v7 (ngB U) A3 n3 c3 G
        have e_z : w.heap.size ≤ v7.heap.size := hb.size
        replace x_x := x_x.keep hb1
        replace x_y := x_y.keep hb1
        replace hT := hT.keep hb1
        replace z_x := z_x.keep hb1
        replace z_y := z_y.keep hb1
        replace z_z := z_z.keep hb1
        replace hb := bthen hb hb1
        clear hb1
        replace q_x0 := x_x.c0; replace q_x1 := x_x.c1; replace f_x0 := x_x.fr 0; replace f_x1 := x_x.fr 1; replace q_x2 := x_x.c2; replace f_x2 := x_x.fr 2
        replace q_y0 := x_y.c0; replace q_y1 := x_y.c1; replace f_y0 := x_y.fr 0; replace f_y1 := x_y.fr 1; replace q_y2 := x_y.c2; replace f_y2 := x_y.fr 2
        clear q_x0 q_x1 f_x0 f_x1 q_x2 f_x2 q_y0 q_y1 f_y0 f_y1 q_y2 f_y2
        generalize v7.alloc (.cells #[.bool (ngB U), .slice A3 n3 c3, .int .i64 G] 30) = v8 at *
        have q_x0 := x_x.c0; have q_x1 := x_x.c1; have f_x0 := x_x.fr 0; have f_x1 := x_x.fr 1; have q_x2 := x_x.c2; have f_x2 := x_x.fr 2
        have q_y0 := x_y.c0; have q_y1 := x_y.c1; have f_y0 := x_y.fr 0; have f_y1 := x_y.fr 1; have q_y2 := x_y.c2; have f_y2 := x_y.fr 2
        have q_z0 := x_z.c0; have q_z1 := x_z.c1; have f_z0 := x_z.fr 0; have f_z1 := x_z.fr 1; have q_z2 := x_z.c2; have f_z2 := x_z.fr 2
        skip
        with_reducible refine (DSub_any z_z.zr z_x.zr hT 200 (by omega) (by omega) (by omega)).mono ?_
        rintro e v9 ⟨A4, n4, c4, rfl, z_s, hb1⟩
        replace x_x := x_x.keep hb1
        replace x_y := x_y.keep hb1
        replace x_z := x_z.keep hb1
        replace hT := hT.keep hb1
        replace z_x := z_x.keep hb1
        replace z_y := z_y.keep hb1
        replace z_z := z_z.keep hb1
        replace hb := bthen hb hb1
        clear hb1
        replace q_x0 := x_x.c0; replace q_x1 := x_x.c1; replace f_x0 := x_x.fr 0; replace f_x1 := x_x.fr 1; replace q_x2 := x_x.c2; replace f_x2 := x_x.fr 2
        replace q_y0 := x_y.c0; replace q_y1 := x_y.c1; replace f_y0 := x_y.fr 0; replace f_y1 := x_y.fr 1; replace q_y2 := x_y.c2; replace f_y2 := x_y.fr 2
        replace q_z0 := x_z.c0; replace q_z1 := x_z.c1; replace f_z0 := x_z.fr 0; replace f_z1 := x_z.fr 1; replace q_z2 := x_z.c2; replace f_z2 := x_z.fr 2
        rw [HST.out.1] at z_s
        rw [HST.out.1, HST.out.2]
        have y_x := (x_x.alloc (.cells #[.bool (ngB 1), .slice A4 n4 c4, .int .i64 (exN a)] 30)); have yq_x0 := y_x.c0; have yq_x1 := y_x.c1; have yq_x2 := y_x.c2
        have y_y := (x_y.alloc (.cells #[.bool (ngB 1), .slice A4 n4 c4, .int .i64 (exN a)] 30)); have yq_y0 := y_y.c0; have yq_y1 := y_y.c1; have yq_y2 := y_y.c2
        have y_z := (x_z.alloc (.cells #[.bool (ngB 1), .slice A4 n4 c4, .int .i64 (exN a)] 30)); have yq_z0 := y_z.c0; have yq_z1 := y_z.c1; have yq_z2 := y_z.c2
        go_wp2_with fail
        clear y_x yq_x0 yq_x1 yq_x2 y_y yq_y0 yq_y1 yq_y2 y_z yq_z0 yq_z1 yq_z2
        have hb1 := below_alloc v9 (.cells #[.bool (ngB 1), .slice A4 n4 c4, .int .i64 (exN a)] 30)
        have l_x_s := x_x.lt
        have l_y_s := x_y.lt
        have l_z_s := x_z.lt
        have x_s := Dx.new v9 (ngB 1) A4 n4 c4 (exN a)
        have e_s : w.heap.size ≤ v9.heap.size := hb.size
        replace x_x := x_x.keep hb1
        replace x_y := x_y.keep hb1
        replace x_z := x_z.keep hb1
        replace hT := hT.keep hb1
        replace z_x := z_x.keep hb1
        replace z_y := z_y.keep hb1
        replace z_z := z_z.keep hb1
        replace z_s := z_s.keep hb1
        replace hb := bthen hb hb1
        clear hb1
        replace q_x0 := x_x.c0; replace q_x1 := x_x.c1; replace f_x0 := x_x.fr 0; replace f_x1 := x_x.fr 1; replace q_x2 := x_x.c2; replace f_x2 := x_x.fr 2
        replace q_y0 := x_y.c0; replace q_y1 := x_y.c1; replace f_y0 := x_y.fr 0; replace f_y1 := x_y.fr 1; replace q_y2 := x_y.c2; replace f_y2 := x_y.fr 2
        replace q_z0 := x_z.c0; replace q_z1 := x_z.c1; replace f_z0 := x_z.fr 0; replace f_z1 := x_z.fr 1; replace q_z2 := x_z.c2; replace f_z2 := x_z.fr 2
        clear q_x0 q_x1 f_x0 f_x1 q_x2 f_x2 q_y0 q_y1 f_y0 f_y1 q_y2 f_y2 q_z0 q_z1 f_z0 f_z1 q_z2 f_z2
        generalize v9.alloc (.cells #[.bool (ngB 1), .slice A4 n4 c4, .int .i64 (exN a)] 30) = v10 at *
        have q_x0 := x_x.c0; have q_x1 := x_x.c1; have f_x0 := x_x.fr 0; have f_x1 := x_x.fr 1; have q_x2 := x_x.c2; have f_x2 := x_x.fr 2
        have q_y0 := x_y.c0; have q_y1 := x_y.c1; have f_y0 := x_y.fr 0; have f_y1 := x_y.fr 1; have q_y2 := x_y.c2; have f_y2 := x_y.fr 2
        have q_z0 := x_z.c0; have q_z1 := x_z.c1; have f_z0 := x_z.fr 0; have f_z1 := x_z.fr 1; have q_z2 := x_z.c2; have f_z2 := x_z.fr 2
        have q_s0 := x_s.c0; have q_s1 := x_s.c1; have f_s0 := x_s.fr 0; have f_s1 := x_s.fr 1; have q_s2 := x_s.c2; have f_s2 := x_s.fr 2
        refine wp_region_held_drew (S := fun w' => w'.cell? ⟨v2.heap.size, 0, none⟩ = some (.bool (ngB Q)) ∧ w'.cell? ⟨v2.heap.size, 1, none⟩ = some (.slice A1 n1 c1) ∧ w'.cell? ⟨v2.heap.size, 2, none⟩ = some (.int .i64 E) ∧ w'.cell? ⟨v4.heap.size, 0, none⟩ = some (.bool (ngB R)) ∧ w'.cell? ⟨v4.heap.size, 1, none⟩ = some (.slice A2 n2 c2) ∧ w'.cell? ⟨v4.heap.size, 2, none⟩ = some (.int .i64 F) ∧ w'.cell? ⟨v9.heap.size, 0, none⟩ = some (.bool (ngB 1)) ∧ w'.cell? ⟨v9.heap.size, 1, none⟩ = some (.slice A4 n4 c4) ∧ w'.cell? ⟨v9.heap.size, 2, none⟩ = some (.int .i64 (exN a))) (by kernel_rfl) (by exact ⟨x_x.c0, x_x.c1, x_x.c2, x_y.c0, x_y.c1, x_y.c2, x_s.c0, x_s.c1, x_s.c2⟩) (fun hHeld => ?_)
        refine wpAnyH_take (i := 0) (oi := ({ dst := some 62, op := Op.move (Operand.tmp 5), type := 4, pos := "law.go:92", after := #[], guard := none } : Oper)) (v := ?_) rfl (by kernel_rfl) (by kernel_rfl) (by kernel_rfl) (fun _ _ _ h => h) (Or.inl ⟨by rfl, ?_⟩) (by assumption) ?_
        rotate_left
        · (intro w9 hSw; (try dsimp only at hSw); go_simp; all_goals with_reducible rfl)
        (try simp only [Act.put, List.setIfInBounds_toArray, List.set_cons_zero, List.set_cons_succ])
        refine wpAnyH_take (i := 1) (oi := ({ dst := some 63, op := Op.move (Operand.tmp 62), type := 4, pos := "law.go:92", after := #[{ on := 0, ground := Ground.data }], guard := none } : Oper)) (v := ?_) rfl (by kernel_rfl) (by kernel_rfl) (by kernel_rfl) (fun _ _ _ h => h) (Or.inl ⟨by rfl, ?_⟩) (by assumption) ?_
        rotate_left
        · (intro w9 hSw; (try dsimp only at hSw); go_simp; all_goals with_reducible rfl)
        (try simp only [Act.put, List.setIfInBounds_toArray, List.set_cons_zero, List.set_cons_succ])
        refine wpAnyH_take (i := 2) (oi := ({ dst := some 64, op := Op.load 30 (Operand.tmp 6), type := 30, pos := "law.go:92", after := #[{ on := 1, ground := Ground.guard }], guard := some (1, true) } : Oper)) (v := ?_) rfl (by kernel_rfl) (by kernel_rfl) (by kernel_rfl) (fun _ _ _ h => h) (Or.inl ⟨by rfl, ?_⟩) (by assumption) ?_
        rotate_left
        · (intro w9 hSw; (try dsimp only at hSw); go_simp; all_goals with_reducible rfl)
        (try simp only [Act.put, List.setIfInBounds_toArray, List.set_cons_zero, List.set_cons_succ])
        refine wpAnyH_take (i := 3) (oi := ({ dst := some 65, op := Op.load 30 (Operand.tmp 8), type := 30, pos := "law.go:92", after := #[{ on := 1, ground := Ground.guard }], guard := some (1, true) } : Oper)) (v := ?_) rfl (by kernel_rfl) (by kernel_rfl) (by kernel_rfl) (fun _ _ _ h => h) (Or.inl ⟨by rfl, ?_⟩) (by assumption) ?_
        rotate_left
        · (intro w9 hSw; (try dsimp only at hSw); go_simp; all_goals with_reducible rfl)
        (try simp only [Act.put, List.setIfInBounds_toArray, List.set_cons_zero, List.set_cons_succ])
        refine wpAnyH_take (i := 5) (oi := ({ dst := some 67, op := Op.move (Operand.tmp 10), type := 3, pos := "law.go:92", after := #[{ on := 1, ground := Ground.guard }], guard := some (1, true) } : Oper)) (v := ?_) rfl (by kernel_rfl) (by kernel_rfl) (by kernel_rfl) (fun _ _ _ h => h) (Or.inl ⟨by rfl, ?_⟩) (by assumption) ?_
        rotate_left
        · (intro w9 hSw; (try dsimp only at hSw); go_simp; all_goals with_reducible rfl)
        (try simp only [Act.put, List.setIfInBounds_toArray, List.set_cons_zero, List.set_cons_succ])
        refine wpAnyH_ready (rs := [4]) (by kernel_rfl) (by simp) ?_
        refine AllReadyH.cons (o := ({ dst := some 66, op := Op.call { callee := Callee.value (Operand.func 20), args := #[Operand.tmp 64, Operand.tmp 65], argTypes := #[30, 30] }, type := 3, pos := "law.go:92", after := #[{ on := 2, ground := Ground.data }, { on := 3, ground := Ground.data }, { on := 1, ground := Ground.chain }, { on := 1, ground := Ground.guard }], guard := some (1, true) } : Oper)) rfl (fun K hK => ?_) AllReadyH.nil
        go_simp
        with_reducible refine (DCmp_any z_x.zr.drw z_y.zr.drw (by omega) (by omega)).mono ?_
        rintro e v11 ⟨rfl, hb1⟩
        replace hb1 := undrew hb1
        replace x_x := x_x.keep hb1
        replace x_y := x_y.keep hb1
        replace x_z := x_z.keep hb1
        replace x_s := x_s.keep hb1
        replace hT := hT.keep hb1
        replace z_x := z_x.keep hb1
        replace z_y := z_y.keep hb1
        replace z_z := z_z.keep hb1
        replace z_s := z_s.keep hb1
        replace hb := bthen hb hb1
        clear hb1
        replace q_x0 := x_x.c0; replace q_x1 := x_x.c1; replace f_x0 := x_x.fr 0; replace f_x1 := x_x.fr 1; replace q_x2 := x_x.c2; replace f_x2 := x_x.fr 2
        replace q_y0 := x_y.c0; replace q_y1 := x_y.c1; replace f_y0 := x_y.fr 0; replace f_y1 := x_y.fr 1; replace q_y2 := x_y.c2; replace f_y2 := x_y.fr 2
        replace q_z0 := x_z.c0; replace q_z1 := x_z.c1; replace f_z0 := x_z.fr 0; replace f_z1 := x_z.fr 1; replace q_z2 := x_z.c2; replace f_z2 := x_z.fr 2
        replace q_s0 := x_s.c0; replace q_s1 := x_s.c1; replace f_s0 := x_s.fr 0; replace f_s1 := x_s.fr 1; replace q_s2 := x_s.c2; replace f_s2 := x_s.fr 2
        rw [HC.out, HG.out]
        (try go_wp2_with fail)
        refine hK.out _ _ (by exact ⟨x_x.c0, x_x.c1, x_x.c2, x_y.c0, x_y.c1, x_y.c2, x_s.c0, x_s.c1, x_s.c2⟩) (fun hHeld => ?_)
        clear hK K
        (try simp only [Act.put, List.setIfInBounds_toArray, List.set_cons_zero, List.set_cons_succ])
        refine wpAnyH_take (i := 6) (oi := ({ dst := some 68, op := Op.binOp BinOp.eql 3 (Operand.tmp 66) (Operand.tmp 67) 3, type := 4, pos := "law.go:92", after := #[{ on := 4, ground := Ground.data }, { on := 5, ground := Ground.data }, { on := 1, ground := Ground.guard }], guard := some (1, true) } : Oper)) (v := ?_) rfl (by kernel_rfl) (by kernel_rfl) (by kernel_rfl) (fun _ _ _ h => h) (Or.inl ⟨by rfl, ?_⟩) (by assumption) ?_
        rotate_left
        · (intro w9 hSw; (try dsimp only at hSw); go_simp; all_goals with_reducible rfl)
        (try simp only [Act.put, List.setIfInBounds_toArray, List.set_cons_zero, List.set_cons_succ])
        refine wpAnyH_take (i := 7) (oi := ({ dst := some 69, op := Op.pick (Operand.tmp 63) (Operand.tmp 68) (Operand.const (Value.bool false)), type := 4, pos := "law.go:92", after := #[{ on := 1, ground := Ground.data }, { on := 6, ground := Ground.data }], guard := none } : Oper)) (v := ?_) rfl (by kernel_rfl) (by kernel_rfl) (by kernel_rfl) (fun _ _ _ h => h) (Or.inl ⟨by rfl, ?_⟩) (by assumption) ?_
        rotate_left
        · (intro w9 hSw; (try dsimp only at hSw); go_simp; all_goals with_reducible rfl)
        (try simp only [Act.put, List.setIfInBounds_toArray, List.set_cons_zero, List.set_cons_succ])
        refine wpAnyH_take (i := 8) (oi := ({ dst := some 70, op := Op.move (Operand.tmp 69), type := 4, pos := "law.go:92", after := #[{ on := 7, ground := Ground.data }, { on := 4, ground := Ground.chain }], guard := none } : Oper)) (v := ?_) rfl (by kernel_rfl) (by kernel_rfl) (by kernel_rfl) (fun _ _ _ h => h) (Or.inl ⟨by rfl, ?_⟩) (by assumption) ?_
        rotate_left
        · (intro w9 hSw; (try dsimp only at hSw); go_simp; all_goals with_reducible rfl)
        (try simp only [Act.put, List.setIfInBounds_toArray, List.set_cons_zero, List.set_cons_succ])
        refine wpAnyH_take (i := 9) (oi := ({ dst := some 71, op := Op.move (Operand.tmp 16), type := 4, pos := "law.go:92", after := #[{ on := 8, ground := Ground.guard }], guard := some (8, true) } : Oper)) (v := ?_) rfl (by kernel_rfl) (by kernel_rfl) (by kernel_rfl) (fun _ _ _ h => h) (Or.inl ⟨by rfl, ?_⟩) (by assumption) ?_
        rotate_left
        · (intro w9 hSw; (try dsimp only at hSw); go_simp; all_goals with_reducible rfl)
        (try simp only [Act.put, List.setIfInBounds_toArray, List.set_cons_zero, List.set_cons_succ])
        refine wpAnyH_take (i := 10) (oi := ({ dst := some 72, op := Op.move (Operand.tmp 71), type := 4, pos := "law.go:92", after := #[{ on := 9, ground := Ground.data }, { on := 8, ground := Ground.chain }, { on := 8, ground := Ground.guard }], guard := some (8, true) } : Oper)) (v := ?_) rfl (by kernel_rfl) (by kernel_rfl) (by kernel_rfl) (fun _ _ _ h => h) (Or.inl ⟨by rfl, ?_⟩) (by assumption) ?_
        rotate_left
        · (intro w9 hSw; (try dsimp only at hSw); go_simp; all_goals with_reducible rfl)
        (try simp only [Act.put, List.setIfInBounds_toArray, List.set_cons_zero, List.set_cons_succ])
        refine wpAnyH_take (i := 11) (oi := ({ dst := some 73, op := Op.move (Operand.tmp 14), type := 31, pos := "law.go:92", after := #[{ on := 10, ground := Ground.guard }], guard := some (10, true) } : Oper)) (v := undef) rfl (by kernel_rfl) (by kernel_rfl) (by kernel_rfl) (fun _ _ _ h => h) (Or.inr ⟨by rfl, rfl⟩) (by assumption) ?_
        (try simp only [Act.put, List.setIfInBounds_toArray, List.set_cons_zero, List.set_cons_succ])
        refine wpAnyH_take (i := 12) (oi := ({ dst := some 74, op := Op.binOp BinOp.eql 31 (Operand.tmp 73) (Operand.const (Value.int IntKind.i64 1)) 31, type := 4, pos := "law.go:92", after := #[{ on := 11, ground := Ground.data }, { on := 10, ground := Ground.guard }], guard := some (10, true) } : Oper)) (v := undef) rfl (by kernel_rfl) (by kernel_rfl) (by kernel_rfl) (fun _ _ _ h => h) (Or.inr ⟨by rfl, rfl⟩) (by assumption) ?_
        (try simp only [Act.put, List.setIfInBounds_toArray, List.set_cons_zero, List.set_cons_succ])
        refine wpAnyH_take (i := 13) (oi := ({ dst := some 75, op := Op.pick (Operand.tmp 72) (Operand.tmp 74) (Operand.const (Value.bool false)), type := 4, pos := "law.go:92", after := #[{ on := 10, ground := Ground.data }, { on := 12, ground := Ground.data }, { on := 8, ground := Ground.guard }], guard := some (8, true) } : Oper)) (v := ?_) rfl (by kernel_rfl) (by kernel_rfl) (by kernel_rfl) (fun _ _ _ h => h) (Or.inl ⟨by rfl, ?_⟩) (by assumption) ?_
        rotate_left
        · (intro w9 hSw; (try dsimp only at hSw); go_simp; all_goals with_reducible rfl)
        (try simp only [Act.put, List.setIfInBounds_toArray, List.set_cons_zero, List.set_cons_succ])
        refine wpAnyH_take (i := 14) (oi := ({ dst := some 76, op := Op.move (Operand.tmp 75), type := 4, pos := "law.go:92", after := #[{ on := 13, ground := Ground.data }, { on := 10, ground := Ground.chain }, { on := 8, ground := Ground.guard }], guard := some (8, true) } : Oper)) (v := ?_) rfl (by kernel_rfl) (by kernel_rfl) (by kernel_rfl) (fun _ _ _ h => h) (Or.inl ⟨by rfl, ?_⟩) (by assumption) ?_
        rotate_left
        · (intro w9 hSw; (try dsimp only at hSw); go_simp; all_goals with_reducible rfl)
        (try simp only [Act.put, List.setIfInBounds_toArray, List.set_cons_zero, List.set_cons_succ])
        refine wpAnyH_take (i := 15) (oi := ({ dst := some 77, op := Op.move (Operand.tmp 16), type := 4, pos := "law.go:92", after := #[{ on := 14, ground := Ground.guard }], guard := some (14, false) } : Oper)) (v := ?_) rfl (by kernel_rfl) (by kernel_rfl) (by kernel_rfl) (fun _ _ _ h => h) (Or.inl ⟨by rfl, ?_⟩) (by assumption) ?_
        rotate_left
        · (intro w9 hSw; (try dsimp only at hSw); go_simp; all_goals with_reducible rfl)
        (try simp only [Act.put, List.setIfInBounds_toArray, List.set_cons_zero, List.set_cons_succ])
        refine wpAnyH_take (i := 16) (oi := ({ dst := some 78, op := Op.unOp UnOp.not 4 (Operand.tmp 77), type := 4, pos := "law.go:92", after := #[{ on := 15, ground := Ground.data }, { on := 14, ground := Ground.guard }], guard := some (14, false) } : Oper)) (v := ?_) rfl (by kernel_rfl) (by kernel_rfl) (by kernel_rfl) (fun _ _ _ h => h) (Or.inl ⟨by rfl, ?_⟩) (by assumption) ?_
        rotate_left
        · (intro w9 hSw; (try dsimp only at hSw); go_simp; all_goals with_reducible rfl)
        (try simp only [Act.put, List.setIfInBounds_toArray, List.set_cons_zero, List.set_cons_succ])
        refine wpAnyH_take (i := 17) (oi := ({ dst := some 79, op := Op.move (Operand.tmp 78), type := 4, pos := "law.go:92", after := #[{ on := 16, ground := Ground.data }, { on := 14, ground := Ground.chain }, { on := 14, ground := Ground.guard }], guard := some (14, false) } : Oper)) (v := ?_) rfl (by kernel_rfl) (by kernel_rfl) (by kernel_rfl) (fun _ _ _ h => h) (Or.inl ⟨by rfl, ?_⟩) (by assumption) ?_
        rotate_left
        · (intro w9 hSw; (try dsimp only at hSw); go_simp; all_goals with_reducible rfl)
        (try simp only [Act.put, List.setIfInBounds_toArray, List.set_cons_zero, List.set_cons_succ])
        refine wpAnyH_take (i := 18) (oi := ({ dst := some 80, op := Op.load 30 (Operand.tmp 15), type := 30, pos := "law.go:92", after := #[{ on := 17, ground := Ground.guard }], guard := some (17, true) } : Oper)) (v := ?_) rfl (by kernel_rfl) (by kernel_rfl) (by kernel_rfl) (fun _ _ _ h => h) (Or.inl ⟨by rfl, ?_⟩) (by assumption) ?_
        rotate_left
        · (intro w9 hSw; (try dsimp only at hSw); go_simp; all_goals with_reducible rfl)
        (try simp only [Act.put, List.setIfInBounds_toArray, List.set_cons_zero, List.set_cons_succ])
        refine wpAnyH_take (i := 20) (oi := ({ dst := some 82, op := Op.move (Operand.tmp 11), type := 3, pos := "law.go:92", after := #[{ on := 17, ground := Ground.guard }], guard := some (17, true) } : Oper)) (v := ?_) rfl (by kernel_rfl) (by kernel_rfl) (by kernel_rfl) (fun _ _ _ h => h) (Or.inl ⟨by rfl, ?_⟩) (by assumption) ?_
        rotate_left
        · (intro w9 hSw; (try dsimp only at hSw); go_simp; all_goals with_reducible rfl)
        (try simp only [Act.put, List.setIfInBounds_toArray, List.set_cons_zero, List.set_cons_succ])
        refine wpAnyH_take (i := 21) (oi := ({ dst := some 83, op := Op.binOp BinOp.sub 3 (Operand.tmp 82) (Operand.const (Value.int IntKind.i64 52)) 3, type := 3, pos := "law.go:92", after := #[{ on := 20, ground := Ground.data }, { on := 17, ground := Ground.guard }], guard := some (17, true) } : Oper)) (v := ?_) rfl (by kernel_rfl) (by kernel_rfl) (by kernel_rfl) (fun _ _ _ h => h) (Or.inl ⟨by rfl, ?_⟩) (by assumption) ?_
        rotate_left
        · (intro w9 hSw; (try dsimp only at hSw); go_simp; all_goals with_reducible rfl)
        (try simp only [Act.put, List.setIfInBounds_toArray, List.set_cons_zero, List.set_cons_succ])
        refine wpAnyH_ready (rs := [19]) (by kernel_rfl) (by simp) ?_
        refine AllReadyH.cons (o := ({ dst := some 81, op := Op.call { callee := Callee.value (Operand.func 22), args := #[Operand.const (Value.int IntKind.i64 1)], argTypes := #[2] }, type := 28, pos := "law.go:92", after := #[{ on := 17, ground := Ground.chain }, { on := 17, ground := Ground.guard }], guard := some (17, true) } : Oper)) rfl (fun K hK => ?_) AllReadyH.nil
        go_simp
        with_reducible refine (ZOf_any 1 (by omega) (by omega)).mono ?_
        rintro e v12 ⟨A5, n5, c5, rfl, za, hb1⟩
        replace x_x := x_x.keep hb1
        replace x_y := x_y.keep hb1
        replace x_z := x_z.keep hb1
        replace x_s := x_s.keep hb1
        replace hT := hT.keep hb1
        replace z_x := z_x.keep hb1
        replace z_y := z_y.keep hb1
        replace z_z := z_z.keep hb1
        replace z_s := z_s.keep hb1
        replace hb := bthen hb hb1
        clear hb1
        replace q_x0 := x_x.c0; replace q_x1 := x_x.c1; replace f_x0 := x_x.fr 0; replace f_x1 := x_x.fr 1; replace q_x2 := x_x.c2; replace f_x2 := x_x.fr 2
        replace q_y0 := x_y.c0; replace q_y1 := x_y.c1; replace f_y0 := x_y.fr 0; replace f_y1 := x_y.fr 1; replace q_y2 := x_y.c2; replace f_y2 := x_y.fr 2
        replace q_z0 := x_z.c0; replace q_z1 := x_z.c1; replace f_z0 := x_z.fr 0; replace f_z1 := x_z.fr 1; replace q_z2 := x_z.c2; replace f_z2 := x_z.fr 2
        replace q_s0 := x_s.c0; replace q_s1 := x_s.c1; replace f_s0 := x_s.fr 0; replace f_s1 := x_s.fr 1; replace q_s2 := x_s.c2; replace f_s2 := x_s.fr 2
        (try go_wp2_with fail)
        refine hK.out _ _ (by exact ⟨x_x.c0, x_x.c1, x_x.c2, x_y.c0, x_y.c1, x_y.c2, x_s.c0, x_s.c1, x_s.c2⟩) (fun hHeld => ?_)
        clear hK K
        (try simp only [Act.put, List.setIfInBounds_toArray, List.set_cons_zero, List.set_cons_succ])
        refine wpAnyH_ready (rs := [22]) (by kernel_rfl) (by simp) ?_
        refine AllReadyH.cons (o := ({ dst := some 84, op := Op.call { callee := Callee.value (Operand.func 21), args := #[Operand.tmp 81, Operand.tmp 83], argTypes := #[28, 3] }, type := 30, pos := "law.go:92", after := #[{ on := 19, ground := Ground.data }, { on := 21, ground := Ground.data }, { on := 19, ground := Ground.chain }, { on := 17, ground := Ground.guard }], guard := some (17, true) } : Oper)) rfl (fun K hK => ?_) AllReadyH.nil
        go_simp
        with_reducible refine (DOf_any za.zr hT 2 (by omega) (by omega)).mono ?_
        rintro e v13 ⟨A6, n6, c6, rfl, zb, hb1⟩
        replace x_x := x_x.keep hb1
        replace x_y := x_y.keep hb1
        replace x_z := x_z.keep hb1
        replace x_s := x_s.keep hb1
        replace hT := hT.keep hb1
        replace z_x := z_x.keep hb1
        replace z_y := z_y.keep hb1
        replace z_z := z_z.keep hb1
        replace z_s := z_s.keep hb1
        replace za := za.keep hb1
        replace hb := bthen hb hb1
        clear hb1
        replace q_x0 := x_x.c0; replace q_x1 := x_x.c1; replace f_x0 := x_x.fr 0; replace f_x1 := x_x.fr 1; replace q_x2 := x_x.c2; replace f_x2 := x_x.fr 2
        replace q_y0 := x_y.c0; replace q_y1 := x_y.c1; replace f_y0 := x_y.fr 0; replace f_y1 := x_y.fr 1; replace q_y2 := x_y.c2; replace f_y2 := x_y.fr 2
        replace q_z0 := x_z.c0; replace q_z1 := x_z.c1; replace f_z0 := x_z.fr 0; replace f_z1 := x_z.fr 1; replace q_z2 := x_z.c2; replace f_z2 := x_z.fr 2
        replace q_s0 := x_s.c0; replace q_s1 := x_s.c1; replace f_s0 := x_s.fr 0; replace f_s1 := x_s.fr 1; replace q_s2 := x_s.c2; replace f_s2 := x_s.fr 2
        rw [HOF.out.1] at zb
        rw [HOF.out.1, HOF.out.2]
        (try go_wp2_with fail)
        refine hK.out _ _ (by exact ⟨x_x.c0, x_x.c1, x_x.c2, x_y.c0, x_y.c1, x_y.c2, x_s.c0, x_s.c1, x_s.c2⟩) (fun hHeld => ?_)
        clear hK K
        (try simp only [Act.put, List.setIfInBounds_toArray, List.set_cons_zero, List.set_cons_succ])
        refine wpAnyH_ready (rs := [23]) (by kernel_rfl) (by simp) ?_
        refine AllReadyH.cons (o := ({ dst := some 85, op := Op.call { callee := Callee.value (Operand.func 20), args := #[Operand.tmp 80, Operand.tmp 84], argTypes := #[30, 30] }, type := 3, pos := "law.go:92", after := #[{ on := 18, ground := Ground.data }, { on := 22, ground := Ground.data }, { on := 22, ground := Ground.chain }, { on := 17, ground := Ground.guard }], guard := some (17, true) } : Oper)) rfl (fun K hK => ?_) AllReadyH.nil
        go_simp
        with_reducible refine (DCmp_any z_s.zr zb.zr (by omega) (by omega)).mono ?_
        rintro e v14 ⟨rfl, hb1⟩
        replace x_x := x_x.keep hb1
        replace x_y := x_y.keep hb1
        replace x_z := x_z.keep hb1
        replace x_s := x_s.keep hb1
        replace hT := hT.keep hb1
        replace z_x := z_x.keep hb1
        replace z_y := z_y.keep hb1
        replace z_z := z_z.keep hb1
        replace z_s := z_s.keep hb1
        replace za := za.keep hb1
        replace zb := zb.keep hb1
        replace hb := bthen hb hb1
        clear hb1
        replace q_x0 := x_x.c0; replace q_x1 := x_x.c1; replace f_x0 := x_x.fr 0; replace f_x1 := x_x.fr 1; replace q_x2 := x_x.c2; replace f_x2 := x_x.fr 2
        replace q_y0 := x_y.c0; replace q_y1 := x_y.c1; replace f_y0 := x_y.fr 0; replace f_y1 := x_y.fr 1; replace q_y2 := x_y.c2; replace f_y2 := x_y.fr 2
        replace q_z0 := x_z.c0; replace q_z1 := x_z.c1; replace f_z0 := x_z.fr 0; replace f_z1 := x_z.fr 1; replace q_z2 := x_z.c2; replace f_z2 := x_z.fr 2
        replace q_s0 := x_s.c0; replace q_s1 := x_s.c1; replace f_s0 := x_s.fr 0; replace f_s1 := x_s.fr 1; replace q_s2 := x_s.c2; replace f_s2 := x_s.fr 2
        rw [HC0.out]
        (try go_wp2_with fail)
        refine hK.out _ _ (by exact ⟨x_x.c0, x_x.c1, x_x.c2, x_y.c0, x_y.c1, x_y.c2, x_s.c0, x_s.c1, x_s.c2⟩) (fun hHeld => ?_)
        clear hK K
        (try simp only [Act.put, List.setIfInBounds_toArray, List.set_cons_zero, List.set_cons_succ])
        refine wpAnyH_take (i := 24) (oi := ({ dst := some 86, op := Op.binOp BinOp.eql 3 (Operand.tmp 85) (Operand.const (Value.int IntKind.i64 0)) 3, type := 4, pos := "law.go:92", after := #[{ on := 23, ground := Ground.data }, { on := 17, ground := Ground.guard }], guard := some (17, true) } : Oper)) (v := ?_) rfl (by kernel_rfl) (by kernel_rfl) (by kernel_rfl) (fun _ _ _ h => h) (Or.inl ⟨by rfl, ?_⟩) (by assumption) ?_
        rotate_left
        · (intro w9 hSw; (try dsimp only at hSw); go_simp; all_goals with_reducible rfl)
        (try simp only [Act.put, List.setIfInBounds_toArray, List.set_cons_zero, List.set_cons_succ])
        refine wpAnyH_take (i := 25) (oi := ({ dst := some 87, op := Op.pick (Operand.tmp 79) (Operand.tmp 86) (Operand.const (Value.bool false)), type := 4, pos := "law.go:92", after := #[{ on := 17, ground := Ground.data }, { on := 24, ground := Ground.data }, { on := 14, ground := Ground.guard }], guard := some (14, false) } : Oper)) (v := ?_) rfl (by kernel_rfl) (by kernel_rfl) (by kernel_rfl) (fun _ _ _ h => h) (Or.inl ⟨by rfl, ?_⟩) (by assumption) ?_
        rotate_left
        · (intro w9 hSw; (try dsimp only at hSw); go_simp; all_goals with_reducible rfl)
        (try simp only [Act.put, List.setIfInBounds_toArray, List.set_cons_zero, List.set_cons_succ])
        refine wpAnyH_take (i := 26) (oi := ({ dst := some 88, op := Op.pick (Operand.tmp 76) (Operand.const (Value.bool true)) (Operand.tmp 87), type := 4, pos := "law.go:92", after := #[{ on := 14, ground := Ground.data }, { on := 25, ground := Ground.data }, { on := 8, ground := Ground.guard }], guard := some (8, true) } : Oper)) (v := ?_) rfl (by kernel_rfl) (by kernel_rfl) (by kernel_rfl) (fun _ _ _ h => h) (Or.inl ⟨by rfl, ?_⟩) (by assumption) ?_
        rotate_left
        · (intro w9 hSw; (try dsimp only at hSw); go_simp; all_goals with_reducible rfl)
        (try simp only [Act.put, List.setIfInBounds_toArray, List.set_cons_zero, List.set_cons_succ])
        refine wpAnyH_take (i := 27) (oi := ({ dst := some 89, op := Op.pick (Operand.tmp 70) (Operand.tmp 88) (Operand.const (Value.bool false)), type := 4, pos := "law.go:92", after := #[{ on := 8, ground := Ground.data }, { on := 26, ground := Ground.data }], guard := none } : Oper)) (v := ?_) rfl (by kernel_rfl) (by kernel_rfl) (by kernel_rfl) (fun _ _ _ h => h) (Or.inl ⟨by rfl, ?_⟩) (by assumption) ?_
        rotate_left
        · (intro w9 hSw; (try dsimp only at hSw); go_simp; all_goals with_reducible rfl)
        (try simp only [Act.put, List.setIfInBounds_toArray, List.set_cons_zero, List.set_cons_succ])
        refine wpAnyH_take (i := 28) (oi := ({ dst := some 4, op := Op.assign (Operand.tmp 89), type := 4, pos := "law.go:92", after := #[{ on := 27, ground := Ground.data }, { on := 23, ground := Ground.chain }, { on := 0, ground := Ground.phase }, { on := 1, ground := Ground.phase }, { on := 2, ground := Ground.phase }, { on := 3, ground := Ground.phase }, { on := 4, ground := Ground.phase }, { on := 5, ground := Ground.phase }, { on := 6, ground := Ground.phase }, { on := 7, ground := Ground.phase }, { on := 8, ground := Ground.phase }, { on := 9, ground := Ground.phase }, { on := 10, ground := Ground.phase }, { on := 11, ground := Ground.phase }, { on := 12, ground := Ground.phase }, { on := 13, ground := Ground.phase }, { on := 14, ground := Ground.phase }, { on := 15, ground := Ground.phase }, { on := 16, ground := Ground.phase }, { on := 17, ground := Ground.phase }, { on := 18, ground := Ground.phase }, { on := 19, ground := Ground.phase }, { on := 20, ground := Ground.phase }, { on := 21, ground := Ground.phase }, { on := 22, ground := Ground.phase }, { on := 23, ground := Ground.phase }, { on := 24, ground := Ground.phase }, { on := 25, ground := Ground.phase }, { on := 26, ground := Ground.phase }, { on := 27, ground := Ground.phase }], guard := none } : Oper)) (v := ?_) rfl (by kernel_rfl) (by kernel_rfl) (by kernel_rfl) (fun _ _ _ h => h) (Or.inl ⟨by rfl, ?_⟩) (by assumption) ?_
        rotate_left
        · (intro w9 hSw; (try dsimp only at hSw); go_simp; all_goals with_reducible rfl)
        (try simp only [Act.put, List.setIfInBounds_toArray, List.set_cons_zero, List.set_cons_succ])
        refine wpAnyH_done (by kernel_rfl) ?_ _
        go_wp2
        go_ret
        exact ⟨rfl, hb⟩
      · have hg := hcm.2.2 hl
        have hl1 : ¬ a < b := by omega
        have hl2 : ¬ b < a := by omega
        clear hl
        have HG := Lib.hid hg; clear hg hcm
        have hb := Below.refl w.heap.size w
        go_enter Tryd.func5, Tryd.ntmps5
        go_wp2_with fail
        with_reducible refine (Bshown_any hT).mono ?_
        rintro e v1 ⟨rfl, hb1⟩
        replace hT := hT.keep hb1
        replace hb := bthen hb hb1
        clear hb1
        go_wp2_with fail
        with_reducible refine (Value_any _ a rfl HL.out.1 hT HF.out.1).mono ?_
        rintro e v2 ⟨A1, n1, c1, rfl, z_x, hb1⟩
        replace hT := hT.keep hb1
        replace hb := bthen hb hb1
        clear hb1
        rw [HQ.out.1] at z_x
        rw [HQ.out.1, HQ.out.2]
        go_wp2_with fail
        have hb1 := below_alloc v2 (.cells #[.bool (ngB Q), .slice A1 n1 c1, .int .i64 E] 30)
        have x_x := Dx.new v2 (ngB Q) A1 n1 c1 E
        have e_x : w.heap.size ≤ v2.heap.size := hb.size
        replace hT := hT.keep hb1
        replace z_x := z_x.keep hb1
        replace hb := bthen hb hb1
        clear hb1
        generalize v2.alloc (.cells #[.bool (ngB Q), .slice A1 n1 c1, .int .i64 E] 30) = v3 at *
        have q_x0 := x_x.c0; have q_x1 := x_x.c1; have f_x0 := x_x.fr 0; have f_x1 := x_x.fr 1; have q_x2 := x_x.c2; have f_x2 := x_x.fr 2
        skip
        with_reducible refine (Value_any _ b rfl HL.out.2 hT HF.out.2).mono ?_
        rintro e v4 ⟨A2, n2, c2, rfl, z_y, hb1⟩
        replace x_x := x_x.keep hb1
        replace hT := hT.keep hb1
        replace z_x := z_x.keep hb1
        replace hb := bthen hb hb1
        clear hb1
        replace q_x0 := x_x.c0; replace q_x1 := x_x.c1; replace f_x0 := x_x.fr 0; replace f_x1 := x_x.fr 1; replace q_x2 := x_x.c2; replace f_x2 := x_x.fr 2
        rw [HR.out.1] at z_y
        rw [HR.out.1, HR.out.2]
        have y_x := (x_x.alloc (.cells #[.bool (ngB R), .slice A2 n2 c2, .int .i64 F] 30)); have yq_x0 := y_x.c0; have yq_x1 := y_x.c1; have yq_x2 := y_x.c2
        go_wp2_with fail
        clear y_x yq_x0 yq_x1 yq_x2
        have hb1 := below_alloc v4 (.cells #[.bool (ngB R), .slice A2 n2 c2, .int .i64 F] 30)
        have l_x_y := x_x.lt
        have x_y := Dx.new v4 (ngB R) A2 n2 c2 F
        have e_y : w.heap.size ≤ v4.heap.size := hb.size
        replace x_x := x_x.keep hb1
        replace hT := hT.keep hb1
        replace z_x := z_x.keep hb1
        replace z_y := z_y.keep hb1
        replace hb := bthen hb hb1
        clear hb1
        replace q_x0 := x_x.c0; replace q_x1 := x_x.c1; replace f_x0 := x_x.fr 0; replace f_x1 := x_x.fr 1; replace q_x2 := x_x.c2; replace f_x2 := x_x.fr 2
        clear q_x0 q_x1 f_x0 f_x1 q_x2 f_x2
        generalize v4.alloc (.cells #[.bool (ngB R), .slice A2 n2 c2, .int .i64 F] 30) = v5 at *
        have q_x0 := x_x.c0; have q_x1 := x_x.c1; have f_x0 := x_x.fr 0; have f_x1 := x_x.fr 1; have q_x2 := x_x.c2; have f_x2 := x_x.fr 2
        have q_y0 := x_y.c0; have q_y1 := x_y.c1; have f_y0 := x_y.fr 0; have f_y1 := x_y.fr 1; have q_y2 := x_y.c2; have f_y2 := x_y.fr 2
        skip
        with_reducible refine (Binade_no _ a rfl HL.out.1 HN.out).mono ?_
        rintro e v6 ⟨rfl, hb1⟩
        replace x_x := x_x.keep hb1
        replace x_y := x_y.keep hb1
        replace hT := hT.keep hb1
        replace z_x := z_x.keep hb1
        replace z_y := z_y.keep hb1
        replace hb := bthen hb hb1
        clear hb1
        replace q_x0 := x_x.c0; replace q_x1 := x_x.c1; replace f_x0 := x_x.fr 0; replace f_x1 := x_x.fr 1; replace q_x2 := x_x.c2; replace f_x2 := x_x.fr 2
        replace q_y0 := x_y.c0; replace q_y1 := x_y.c1; replace f_y0 := x_y.fr 0; replace f_y1 := x_y.fr 1; replace q_y2 := x_y.c2; replace f_y2 := x_y.fr 2
        go_wp2_with fail
        with_reducible refine (Value_any _ z1 rfl HK.out.2 hT HK.out.1).mono ?_
        rintro e v7 ⟨A3, n3, c3, rfl, z_z, hb1⟩
        replace x_x := x_x.keep hb1
        replace x_y := x_y.keep hb1
        replace hT := hT.keep hb1
        replace z_x := z_x.keep hb1
        replace z_y := z_y.keep hb1
        replace hb := bthen hb hb1
        clear hb1
        replace q_x0 := x_x.c0; replace q_x1 := x_x.c1; replace f_x0 := x_x.fr 0; replace f_x1 := x_x.fr 1; replace q_x2 := x_x.c2; replace f_x2 := x_x.fr 2
        replace q_y0 := x_y.c0; replace q_y1 := x_y.c1; replace f_y0 := x_y.fr 0; replace f_y1 := x_y.fr 1; replace q_y2 := x_y.c2; replace f_y2 := x_y.fr 2
        rw [HU.out.1] at z_z
        rw [HU.out.1, HU.out.2]
        have y_x := (x_x.alloc (.cells #[.bool (ngB U), .slice A3 n3 c3, .int .i64 G] 30)); have yq_x0 := y_x.c0; have yq_x1 := y_x.c1; have yq_x2 := y_x.c2
        have y_y := (x_y.alloc (.cells #[.bool (ngB U), .slice A3 n3 c3, .int .i64 G] 30)); have yq_y0 := y_y.c0; have yq_y1 := y_y.c1; have yq_y2 := y_y.c2
        go_wp2_with fail
        clear y_x yq_x0 yq_x1 yq_x2 y_y yq_y0 yq_y1 yq_y2
        have hb1 := below_alloc v7 (.cells #[.bool (ngB U), .slice A3 n3 c3, .int .i64 G] 30)
        have l_x_z := x_x.lt
        have l_y_z := x_y.lt
        have x_z := Dx.new v7 (ngB U) A3 n3 c3 G
        have e_z : w.heap.size ≤ v7.heap.size := hb.size
        replace x_x := x_x.keep hb1
        replace x_y := x_y.keep hb1
        replace hT := hT.keep hb1
        replace z_x := z_x.keep hb1
        replace z_y := z_y.keep hb1
        replace z_z := z_z.keep hb1
        replace hb := bthen hb hb1
        clear hb1
        replace q_x0 := x_x.c0; replace q_x1 := x_x.c1; replace f_x0 := x_x.fr 0; replace f_x1 := x_x.fr 1; replace q_x2 := x_x.c2; replace f_x2 := x_x.fr 2
        replace q_y0 := x_y.c0; replace q_y1 := x_y.c1; replace f_y0 := x_y.fr 0; replace f_y1 := x_y.fr 1; replace q_y2 := x_y.c2; replace f_y2 := x_y.fr 2
        clear q_x0 q_x1 f_x0 f_x1 q_x2 f_x2 q_y0 q_y1 f_y0 f_y1 q_y2 f_y2
        generalize v7.alloc (.cells #[.bool (ngB U), .slice A3 n3 c3, .int .i64 G] 30) = v8 at *
        have q_x0 := x_x.c0; have q_x1 := x_x.c1; have f_x0 := x_x.fr 0; have f_x1 := x_x.fr 1; have q_x2 := x_x.c2; have f_x2 := x_x.fr 2
        have q_y0 := x_y.c0; have q_y1 := x_y.c1; have f_y0 := x_y.fr 0; have f_y1 := x_y.fr 1; have q_y2 := x_y.c2; have f_y2 := x_y.fr 2
        have q_z0 := x_z.c0; have q_z1 := x_z.c1; have f_z0 := x_z.fr 0; have f_z1 := x_z.fr 1; have q_z2 := x_z.c2; have f_z2 := x_z.fr 2
        skip
        with_reducible refine (DSub_any z_z.zr z_x.zr hT 200 (by omega) (by omega) (by omega)).mono ?_
        rintro e v9 ⟨A4, n4, c4, rfl, z_s, hb1⟩
        replace x_x := x_x.keep hb1
        replace x_y := x_y.keep hb1
        replace x_z := x_z.keep hb1
        replace hT := hT.keep hb1
        replace z_x := z_x.keep hb1
        replace z_y := z_y.keep hb1
        replace z_z := z_z.keep hb1
        replace hb := bthen hb hb1
        clear hb1
        replace q_x0 := x_x.c0; replace q_x1 := x_x.c1; replace f_x0 := x_x.fr 0; replace f_x1 := x_x.fr 1; replace q_x2 := x_x.c2; replace f_x2 := x_x.fr 2
        replace q_y0 := x_y.c0; replace q_y1 := x_y.c1; replace f_y0 := x_y.fr 0; replace f_y1 := x_y.fr 1; replace q_y2 := x_y.c2; replace f_y2 := x_y.fr 2
        replace q_z0 := x_z.c0; replace q_z1 := x_z.c1; replace f_z0 := x_z.fr 0; replace f_z1 := x_z.fr 1; replace q_z2 := x_z.c2; replace f_z2 := x_z.fr 2
        rw [HST.out.1] at z_s
        rw [HST.out.1, HST.out.2]
        have y_x := (x_x.alloc (.cells #[.bool (ngB 1), .slice A4 n4 c4, .int .i64 (exN a)] 30)); have yq_x0 := y_x.c0; have yq_x1 := y_x.c1; have yq_x2 := y_x.c2
        have y_y := (x_y.alloc (.cells #[.bool (ngB 1), .slice A4 n4 c4, .int .i64 (exN a)] 30)); have yq_y0 := y_y.c0; have yq_y1 := y_y.c1; have yq_y2 := y_y.c2
        have y_z := (x_z.alloc (.cells #[.bool (ngB 1), .slice A4 n4 c4, .int .i64 (exN a)] 30)); have yq_z0 := y_z.c0; have yq_z1 := y_z.c1; have yq_z2 := y_z.c2
        go_wp2_with fail
        clear y_x yq_x0 yq_x1 yq_x2 y_y yq_y0 yq_y1 yq_y2 y_z yq_z0 yq_z1 yq_z2
        have hb1 := below_alloc v9 (.cells #[.bool (ngB 1), .slice A4 n4 c4, .int .i64 (exN a)] 30)
        have l_x_s := x_x.lt
        have l_y_s := x_y.lt
        have l_z_s := x_z.lt
        have x_s := Dx.new v9 (ngB 1) A4 n4 c4 (exN a)
        have e_s : w.heap.size ≤ v9.heap.size := hb.size
        replace x_x := x_x.keep hb1
        replace x_y := x_y.keep hb1
        replace x_z := x_z.keep hb1
        replace hT := hT.keep hb1
        replace z_x := z_x.keep hb1
        replace z_y := z_y.keep hb1
        replace z_z := z_z.keep hb1
        replace z_s := z_s.keep hb1
        replace hb := bthen hb hb1
        clear hb1
        replace q_x0 := x_x.c0; replace q_x1 := x_x.c1; replace f_x0 := x_x.fr 0; replace f_x1 := x_x.fr 1; replace q_x2 := x_x.c2; replace f_x2 := x_x.fr 2
        replace q_y0 := x_y.c0; replace q_y1 := x_y.c1; replace f_y0 := x_y.fr 0; replace f_y1 := x_y.fr 1; replace q_y2 := x_y.c2; replace f_y2 := x_y.fr 2
        replace q_z0 := x_z.c0; replace q_z1 := x_z.c1; replace f_z0 := x_z.fr 0; replace f_z1 := x_z.fr 1; replace q_z2 := x_z.c2; replace f_z2 := x_z.fr 2
        clear q_x0 q_x1 f_x0 f_x1 q_x2 f_x2 q_y0 q_y1 f_y0 f_y1 q_y2 f_y2 q_z0 q_z1 f_z0 f_z1 q_z2 f_z2
        generalize v9.alloc (.cells #[.bool (ngB 1), .slice A4 n4 c4, .int .i64 (exN a)] 30) = v10 at *
        have q_x0 := x_x.c0; have q_x1 := x_x.c1; have f_x0 := x_x.fr 0; have f_x1 := x_x.fr 1; have q_x2 := x_x.c2; have f_x2 := x_x.fr 2
        have q_y0 := x_y.c0; have q_y1 := x_y.c1; have f_y0 := x_y.fr 0; have f_y1 := x_y.fr 1; have q_y2 := x_y.c2; have f_y2 := x_y.fr 2
        have q_z0 := x_z.c0; have q_z1 := x_z.c1; have f_z0 := x_z.fr 0; have f_z1 := x_z.fr 1; have q_z2 := x_z.c2; have f_z2 := x_z.fr 2
        have q_s0 := x_s.c0; have q_s1 := x_s.c1; have f_s0 := x_s.fr 0; have f_s1 := x_s.fr 1; have q_s2 := x_s.c2; have f_s2 := x_s.fr 2
        refine wp_region_held_drew (S := fun w' => w'.cell? ⟨v2.heap.size, 0, none⟩ = some (.bool (ngB Q)) ∧ w'.cell? ⟨v2.heap.size, 1, none⟩ = some (.slice A1 n1 c1) ∧ w'.cell? ⟨v2.heap.size, 2, none⟩ = some (.int .i64 E) ∧ w'.cell? ⟨v4.heap.size, 0, none⟩ = some (.bool (ngB R)) ∧ w'.cell? ⟨v4.heap.size, 1, none⟩ = some (.slice A2 n2 c2) ∧ w'.cell? ⟨v4.heap.size, 2, none⟩ = some (.int .i64 F) ∧ w'.cell? ⟨v9.heap.size, 0, none⟩ = some (.bool (ngB 1)) ∧ w'.cell? ⟨v9.heap.size, 1, none⟩ = some (.slice A4 n4 c4) ∧ w'.cell? ⟨v9.heap.size, 2, none⟩ = some (.int .i64 (exN a))) (by kernel_rfl) (by exact ⟨x_x.c0, x_x.c1, x_x.c2, x_y.c0, x_y.c1, x_y.c2, x_s.c0, x_s.c1, x_s.c2⟩) (fun hHeld => ?_)
        refine wpAnyH_take (i := 0) (oi := ({ dst := some 62, op := Op.move (Operand.tmp 5), type := 4, pos := "law.go:92", after := #[], guard := none } : Oper)) (v := ?_) rfl (by kernel_rfl) (by kernel_rfl) (by kernel_rfl) (fun _ _ _ h => h) (Or.inl ⟨by rfl, ?_⟩) (by assumption) ?_
        rotate_left
        · (intro w9 hSw; (try dsimp only at hSw); go_simp; all_goals with_reducible rfl)
        (try simp only [Act.put, List.setIfInBounds_toArray, List.set_cons_zero, List.set_cons_succ])
        refine wpAnyH_take (i := 1) (oi := ({ dst := some 63, op := Op.move (Operand.tmp 62), type := 4, pos := "law.go:92", after := #[{ on := 0, ground := Ground.data }], guard := none } : Oper)) (v := ?_) rfl (by kernel_rfl) (by kernel_rfl) (by kernel_rfl) (fun _ _ _ h => h) (Or.inl ⟨by rfl, ?_⟩) (by assumption) ?_
        rotate_left
        · (intro w9 hSw; (try dsimp only at hSw); go_simp; all_goals with_reducible rfl)
        (try simp only [Act.put, List.setIfInBounds_toArray, List.set_cons_zero, List.set_cons_succ])
        refine wpAnyH_take (i := 2) (oi := ({ dst := some 64, op := Op.load 30 (Operand.tmp 6), type := 30, pos := "law.go:92", after := #[{ on := 1, ground := Ground.guard }], guard := some (1, true) } : Oper)) (v := ?_) rfl (by kernel_rfl) (by kernel_rfl) (by kernel_rfl) (fun _ _ _ h => h) (Or.inl ⟨by rfl, ?_⟩) (by assumption) ?_
        rotate_left
        · (intro w9 hSw; (try dsimp only at hSw); go_simp; all_goals with_reducible rfl)
        (try simp only [Act.put, List.setIfInBounds_toArray, List.set_cons_zero, List.set_cons_succ])
        refine wpAnyH_take (i := 3) (oi := ({ dst := some 65, op := Op.load 30 (Operand.tmp 8), type := 30, pos := "law.go:92", after := #[{ on := 1, ground := Ground.guard }], guard := some (1, true) } : Oper)) (v := ?_) rfl (by kernel_rfl) (by kernel_rfl) (by kernel_rfl) (fun _ _ _ h => h) (Or.inl ⟨by rfl, ?_⟩) (by assumption) ?_
        rotate_left
        · (intro w9 hSw; (try dsimp only at hSw); go_simp; all_goals with_reducible rfl)
        (try simp only [Act.put, List.setIfInBounds_toArray, List.set_cons_zero, List.set_cons_succ])
        refine wpAnyH_take (i := 5) (oi := ({ dst := some 67, op := Op.move (Operand.tmp 10), type := 3, pos := "law.go:92", after := #[{ on := 1, ground := Ground.guard }], guard := some (1, true) } : Oper)) (v := ?_) rfl (by kernel_rfl) (by kernel_rfl) (by kernel_rfl) (fun _ _ _ h => h) (Or.inl ⟨by rfl, ?_⟩) (by assumption) ?_
        rotate_left
        · (intro w9 hSw; (try dsimp only at hSw); go_simp; all_goals with_reducible rfl)
        (try simp only [Act.put, List.setIfInBounds_toArray, List.set_cons_zero, List.set_cons_succ])
        refine wpAnyH_ready (rs := [4]) (by kernel_rfl) (by simp) ?_
        refine AllReadyH.cons (o := ({ dst := some 66, op := Op.call { callee := Callee.value (Operand.func 20), args := #[Operand.tmp 64, Operand.tmp 65], argTypes := #[30, 30] }, type := 3, pos := "law.go:92", after := #[{ on := 2, ground := Ground.data }, { on := 3, ground := Ground.data }, { on := 1, ground := Ground.chain }, { on := 1, ground := Ground.guard }], guard := some (1, true) } : Oper)) rfl (fun K hK => ?_) AllReadyH.nil
        go_simp
        with_reducible refine (DCmp_any z_x.zr.drw z_y.zr.drw (by omega) (by omega)).mono ?_
        rintro e v11 ⟨rfl, hb1⟩
        replace hb1 := undrew hb1
        replace x_x := x_x.keep hb1
        replace x_y := x_y.keep hb1
        replace x_z := x_z.keep hb1
        replace x_s := x_s.keep hb1
        replace hT := hT.keep hb1
        replace z_x := z_x.keep hb1
        replace z_y := z_y.keep hb1
        replace z_z := z_z.keep hb1
        replace z_s := z_s.keep hb1
        replace hb := bthen hb hb1
        clear hb1
        replace q_x0 := x_x.c0; replace q_x1 := x_x.c1; replace f_x0 := x_x.fr 0; replace f_x1 := x_x.fr 1; replace q_x2 := x_x.c2; replace f_x2 := x_x.fr 2
        replace q_y0 := x_y.c0; replace q_y1 := x_y.c1; replace f_y0 := x_y.fr 0; replace f_y1 := x_y.fr 1; replace q_y2 := x_y.c2; replace f_y2 := x_y.fr 2
        replace q_z0 := x_z.c0; replace q_z1 := x_z.c1; replace f_z0 := x_z.fr 0; replace f_z1 := x_z.fr 1; replace q_z2 := x_z.c2; replace f_z2 := x_z.fr 2
        replace q_s0 := x_s.c0; replace q_s1 := x_s.c1; replace f_s0 := x_s.fr 0; replace f_s1 := x_s.fr 1; replace q_s2 := x_s.c2; replace f_s2 := x_s.fr 2
        rw [HC.out, HG.out]
        (try go_wp2_with fail)
        refine hK.out _ _ (by exact ⟨x_x.c0, x_x.c1, x_x.c2, x_y.c0, x_y.c1, x_y.c2, x_s.c0, x_s.c1, x_s.c2⟩) (fun hHeld => ?_)
        clear hK K
        (try simp only [Act.put, List.setIfInBounds_toArray, List.set_cons_zero, List.set_cons_succ])
        refine wpAnyH_take (i := 6) (oi := ({ dst := some 68, op := Op.binOp BinOp.eql 3 (Operand.tmp 66) (Operand.tmp 67) 3, type := 4, pos := "law.go:92", after := #[{ on := 4, ground := Ground.data }, { on := 5, ground := Ground.data }, { on := 1, ground := Ground.guard }], guard := some (1, true) } : Oper)) (v := ?_) rfl (by kernel_rfl) (by kernel_rfl) (by kernel_rfl) (fun _ _ _ h => h) (Or.inl ⟨by rfl, ?_⟩) (by assumption) ?_
        rotate_left
        · (intro w9 hSw; (try dsimp only at hSw); go_simp; all_goals with_reducible rfl)
        (try simp only [Act.put, List.setIfInBounds_toArray, List.set_cons_zero, List.set_cons_succ])
        refine wpAnyH_take (i := 7) (oi := ({ dst := some 69, op := Op.pick (Operand.tmp 63) (Operand.tmp 68) (Operand.const (Value.bool false)), type := 4, pos := "law.go:92", after := #[{ on := 1, ground := Ground.data }, { on := 6, ground := Ground.data }], guard := none } : Oper)) (v := ?_) rfl (by kernel_rfl) (by kernel_rfl) (by kernel_rfl) (fun _ _ _ h => h) (Or.inl ⟨by rfl, ?_⟩) (by assumption) ?_
        rotate_left
        · (intro w9 hSw; (try dsimp only at hSw); go_simp; all_goals with_reducible rfl)
        (try simp only [Act.put, List.setIfInBounds_toArray, List.set_cons_zero, List.set_cons_succ])
        refine wpAnyH_take (i := 8) (oi := ({ dst := some 70, op := Op.move (Operand.tmp 69), type := 4, pos := "law.go:92", after := #[{ on := 7, ground := Ground.data }, { on := 4, ground := Ground.chain }], guard := none } : Oper)) (v := ?_) rfl (by kernel_rfl) (by kernel_rfl) (by kernel_rfl) (fun _ _ _ h => h) (Or.inl ⟨by rfl, ?_⟩) (by assumption) ?_
        rotate_left
        · (intro w9 hSw; (try dsimp only at hSw); go_simp; all_goals with_reducible rfl)
        (try simp only [Act.put, List.setIfInBounds_toArray, List.set_cons_zero, List.set_cons_succ])
        refine wpAnyH_take (i := 9) (oi := ({ dst := some 71, op := Op.move (Operand.tmp 16), type := 4, pos := "law.go:92", after := #[{ on := 8, ground := Ground.guard }], guard := some (8, true) } : Oper)) (v := ?_) rfl (by kernel_rfl) (by kernel_rfl) (by kernel_rfl) (fun _ _ _ h => h) (Or.inl ⟨by rfl, ?_⟩) (by assumption) ?_
        rotate_left
        · (intro w9 hSw; (try dsimp only at hSw); go_simp; all_goals with_reducible rfl)
        (try simp only [Act.put, List.setIfInBounds_toArray, List.set_cons_zero, List.set_cons_succ])
        refine wpAnyH_take (i := 10) (oi := ({ dst := some 72, op := Op.move (Operand.tmp 71), type := 4, pos := "law.go:92", after := #[{ on := 9, ground := Ground.data }, { on := 8, ground := Ground.chain }, { on := 8, ground := Ground.guard }], guard := some (8, true) } : Oper)) (v := ?_) rfl (by kernel_rfl) (by kernel_rfl) (by kernel_rfl) (fun _ _ _ h => h) (Or.inl ⟨by rfl, ?_⟩) (by assumption) ?_
        rotate_left
        · (intro w9 hSw; (try dsimp only at hSw); go_simp; all_goals with_reducible rfl)
        (try simp only [Act.put, List.setIfInBounds_toArray, List.set_cons_zero, List.set_cons_succ])
        refine wpAnyH_take (i := 11) (oi := ({ dst := some 73, op := Op.move (Operand.tmp 14), type := 31, pos := "law.go:92", after := #[{ on := 10, ground := Ground.guard }], guard := some (10, true) } : Oper)) (v := undef) rfl (by kernel_rfl) (by kernel_rfl) (by kernel_rfl) (fun _ _ _ h => h) (Or.inr ⟨by rfl, rfl⟩) (by assumption) ?_
        (try simp only [Act.put, List.setIfInBounds_toArray, List.set_cons_zero, List.set_cons_succ])
        refine wpAnyH_take (i := 12) (oi := ({ dst := some 74, op := Op.binOp BinOp.eql 31 (Operand.tmp 73) (Operand.const (Value.int IntKind.i64 1)) 31, type := 4, pos := "law.go:92", after := #[{ on := 11, ground := Ground.data }, { on := 10, ground := Ground.guard }], guard := some (10, true) } : Oper)) (v := undef) rfl (by kernel_rfl) (by kernel_rfl) (by kernel_rfl) (fun _ _ _ h => h) (Or.inr ⟨by rfl, rfl⟩) (by assumption) ?_
        (try simp only [Act.put, List.setIfInBounds_toArray, List.set_cons_zero, List.set_cons_succ])
        refine wpAnyH_take (i := 13) (oi := ({ dst := some 75, op := Op.pick (Operand.tmp 72) (Operand.tmp 74) (Operand.const (Value.bool false)), type := 4, pos := "law.go:92", after := #[{ on := 10, ground := Ground.data }, { on := 12, ground := Ground.data }, { on := 8, ground := Ground.guard }], guard := some (8, true) } : Oper)) (v := ?_) rfl (by kernel_rfl) (by kernel_rfl) (by kernel_rfl) (fun _ _ _ h => h) (Or.inl ⟨by rfl, ?_⟩) (by assumption) ?_
        rotate_left
        · (intro w9 hSw; (try dsimp only at hSw); go_simp; all_goals with_reducible rfl)
        (try simp only [Act.put, List.setIfInBounds_toArray, List.set_cons_zero, List.set_cons_succ])
        refine wpAnyH_take (i := 14) (oi := ({ dst := some 76, op := Op.move (Operand.tmp 75), type := 4, pos := "law.go:92", after := #[{ on := 13, ground := Ground.data }, { on := 10, ground := Ground.chain }, { on := 8, ground := Ground.guard }], guard := some (8, true) } : Oper)) (v := ?_) rfl (by kernel_rfl) (by kernel_rfl) (by kernel_rfl) (fun _ _ _ h => h) (Or.inl ⟨by rfl, ?_⟩) (by assumption) ?_
        rotate_left
        · (intro w9 hSw; (try dsimp only at hSw); go_simp; all_goals with_reducible rfl)
        (try simp only [Act.put, List.setIfInBounds_toArray, List.set_cons_zero, List.set_cons_succ])
        refine wpAnyH_take (i := 15) (oi := ({ dst := some 77, op := Op.move (Operand.tmp 16), type := 4, pos := "law.go:92", after := #[{ on := 14, ground := Ground.guard }], guard := some (14, false) } : Oper)) (v := ?_) rfl (by kernel_rfl) (by kernel_rfl) (by kernel_rfl) (fun _ _ _ h => h) (Or.inl ⟨by rfl, ?_⟩) (by assumption) ?_
        rotate_left
        · (intro w9 hSw; (try dsimp only at hSw); go_simp; all_goals with_reducible rfl)
        (try simp only [Act.put, List.setIfInBounds_toArray, List.set_cons_zero, List.set_cons_succ])
        refine wpAnyH_take (i := 16) (oi := ({ dst := some 78, op := Op.unOp UnOp.not 4 (Operand.tmp 77), type := 4, pos := "law.go:92", after := #[{ on := 15, ground := Ground.data }, { on := 14, ground := Ground.guard }], guard := some (14, false) } : Oper)) (v := ?_) rfl (by kernel_rfl) (by kernel_rfl) (by kernel_rfl) (fun _ _ _ h => h) (Or.inl ⟨by rfl, ?_⟩) (by assumption) ?_
        rotate_left
        · (intro w9 hSw; (try dsimp only at hSw); go_simp; all_goals with_reducible rfl)
        (try simp only [Act.put, List.setIfInBounds_toArray, List.set_cons_zero, List.set_cons_succ])
        refine wpAnyH_take (i := 17) (oi := ({ dst := some 79, op := Op.move (Operand.tmp 78), type := 4, pos := "law.go:92", after := #[{ on := 16, ground := Ground.data }, { on := 14, ground := Ground.chain }, { on := 14, ground := Ground.guard }], guard := some (14, false) } : Oper)) (v := ?_) rfl (by kernel_rfl) (by kernel_rfl) (by kernel_rfl) (fun _ _ _ h => h) (Or.inl ⟨by rfl, ?_⟩) (by assumption) ?_
        rotate_left
        · (intro w9 hSw; (try dsimp only at hSw); go_simp; all_goals with_reducible rfl)
        (try simp only [Act.put, List.setIfInBounds_toArray, List.set_cons_zero, List.set_cons_succ])
        refine wpAnyH_take (i := 18) (oi := ({ dst := some 80, op := Op.load 30 (Operand.tmp 15), type := 30, pos := "law.go:92", after := #[{ on := 17, ground := Ground.guard }], guard := some (17, true) } : Oper)) (v := ?_) rfl (by kernel_rfl) (by kernel_rfl) (by kernel_rfl) (fun _ _ _ h => h) (Or.inl ⟨by rfl, ?_⟩) (by assumption) ?_
        rotate_left
        · (intro w9 hSw; (try dsimp only at hSw); go_simp; all_goals with_reducible rfl)
        (try simp only [Act.put, List.setIfInBounds_toArray, List.set_cons_zero, List.set_cons_succ])
        refine wpAnyH_take (i := 20) (oi := ({ dst := some 82, op := Op.move (Operand.tmp 11), type := 3, pos := "law.go:92", after := #[{ on := 17, ground := Ground.guard }], guard := some (17, true) } : Oper)) (v := ?_) rfl (by kernel_rfl) (by kernel_rfl) (by kernel_rfl) (fun _ _ _ h => h) (Or.inl ⟨by rfl, ?_⟩) (by assumption) ?_
        rotate_left
        · (intro w9 hSw; (try dsimp only at hSw); go_simp; all_goals with_reducible rfl)
        (try simp only [Act.put, List.setIfInBounds_toArray, List.set_cons_zero, List.set_cons_succ])
        refine wpAnyH_take (i := 21) (oi := ({ dst := some 83, op := Op.binOp BinOp.sub 3 (Operand.tmp 82) (Operand.const (Value.int IntKind.i64 52)) 3, type := 3, pos := "law.go:92", after := #[{ on := 20, ground := Ground.data }, { on := 17, ground := Ground.guard }], guard := some (17, true) } : Oper)) (v := ?_) rfl (by kernel_rfl) (by kernel_rfl) (by kernel_rfl) (fun _ _ _ h => h) (Or.inl ⟨by rfl, ?_⟩) (by assumption) ?_
        rotate_left
        · (intro w9 hSw; (try dsimp only at hSw); go_simp; all_goals with_reducible rfl)
        (try simp only [Act.put, List.setIfInBounds_toArray, List.set_cons_zero, List.set_cons_succ])
        refine wpAnyH_ready (rs := [19]) (by kernel_rfl) (by simp) ?_
        refine AllReadyH.cons (o := ({ dst := some 81, op := Op.call { callee := Callee.value (Operand.func 22), args := #[Operand.const (Value.int IntKind.i64 1)], argTypes := #[2] }, type := 28, pos := "law.go:92", after := #[{ on := 17, ground := Ground.chain }, { on := 17, ground := Ground.guard }], guard := some (17, true) } : Oper)) rfl (fun K hK => ?_) AllReadyH.nil
        go_simp
        with_reducible refine (ZOf_any 1 (by omega) (by omega)).mono ?_
        rintro e v12 ⟨A5, n5, c5, rfl, za, hb1⟩
        replace x_x := x_x.keep hb1
        replace x_y := x_y.keep hb1
        replace x_z := x_z.keep hb1
        replace x_s := x_s.keep hb1
        replace hT := hT.keep hb1
        replace z_x := z_x.keep hb1
        replace z_y := z_y.keep hb1
        replace z_z := z_z.keep hb1
        replace z_s := z_s.keep hb1
        replace hb := bthen hb hb1
        clear hb1
        replace q_x0 := x_x.c0; replace q_x1 := x_x.c1; replace f_x0 := x_x.fr 0; replace f_x1 := x_x.fr 1; replace q_x2 := x_x.c2; replace f_x2 := x_x.fr 2
        replace q_y0 := x_y.c0; replace q_y1 := x_y.c1; replace f_y0 := x_y.fr 0; replace f_y1 := x_y.fr 1; replace q_y2 := x_y.c2; replace f_y2 := x_y.fr 2
        replace q_z0 := x_z.c0; replace q_z1 := x_z.c1; replace f_z0 := x_z.fr 0; replace f_z1 := x_z.fr 1; replace q_z2 := x_z.c2; replace f_z2 := x_z.fr 2
        replace q_s0 := x_s.c0; replace q_s1 := x_s.c1; replace f_s0 := x_s.fr 0; replace f_s1 := x_s.fr 1; replace q_s2 := x_s.c2; replace f_s2 := x_s.fr 2
        (try go_wp2_with fail)
        refine hK.out _ _ (by exact ⟨x_x.c0, x_x.c1, x_x.c2, x_y.c0, x_y.c1, x_y.c2, x_s.c0, x_s.c1, x_s.c2⟩) (fun hHeld => ?_)
        clear hK K
        (try simp only [Act.put, List.setIfInBounds_toArray, List.set_cons_zero, List.set_cons_succ])
        refine wpAnyH_ready (rs := [22]) (by kernel_rfl) (by simp) ?_
        refine AllReadyH.cons (o := ({ dst := some 84, op := Op.call { callee := Callee.value (Operand.func 21), args := #[Operand.tmp 81, Operand.tmp 83], argTypes := #[28, 3] }, type := 30, pos := "law.go:92", after := #[{ on := 19, ground := Ground.data }, { on := 21, ground := Ground.data }, { on := 19, ground := Ground.chain }, { on := 17, ground := Ground.guard }], guard := some (17, true) } : Oper)) rfl (fun K hK => ?_) AllReadyH.nil
        go_simp
        with_reducible refine (DOf_any za.zr hT 2 (by omega) (by omega)).mono ?_
        rintro e v13 ⟨A6, n6, c6, rfl, zb, hb1⟩
        replace x_x := x_x.keep hb1
        replace x_y := x_y.keep hb1
        replace x_z := x_z.keep hb1
        replace x_s := x_s.keep hb1
        replace hT := hT.keep hb1
        replace z_x := z_x.keep hb1
        replace z_y := z_y.keep hb1
        replace z_z := z_z.keep hb1
        replace z_s := z_s.keep hb1
        replace za := za.keep hb1
        replace hb := bthen hb hb1
        clear hb1
        replace q_x0 := x_x.c0; replace q_x1 := x_x.c1; replace f_x0 := x_x.fr 0; replace f_x1 := x_x.fr 1; replace q_x2 := x_x.c2; replace f_x2 := x_x.fr 2
        replace q_y0 := x_y.c0; replace q_y1 := x_y.c1; replace f_y0 := x_y.fr 0; replace f_y1 := x_y.fr 1; replace q_y2 := x_y.c2; replace f_y2 := x_y.fr 2
        replace q_z0 := x_z.c0; replace q_z1 := x_z.c1; replace f_z0 := x_z.fr 0; replace f_z1 := x_z.fr 1; replace q_z2 := x_z.c2; replace f_z2 := x_z.fr 2
        replace q_s0 := x_s.c0; replace q_s1 := x_s.c1; replace f_s0 := x_s.fr 0; replace f_s1 := x_s.fr 1; replace q_s2 := x_s.c2; replace f_s2 := x_s.fr 2
        rw [HOF.out.1] at zb
        rw [HOF.out.1, HOF.out.2]
        (try go_wp2_with fail)
        refine hK.out _ _ (by exact ⟨x_x.c0, x_x.c1, x_x.c2, x_y.c0, x_y.c1, x_y.c2, x_s.c0, x_s.c1, x_s.c2⟩) (fun hHeld => ?_)
        clear hK K
        (try simp only [Act.put, List.setIfInBounds_toArray, List.set_cons_zero, List.set_cons_succ])
        refine wpAnyH_ready (rs := [23]) (by kernel_rfl) (by simp) ?_
        refine AllReadyH.cons (o := ({ dst := some 85, op := Op.call { callee := Callee.value (Operand.func 20), args := #[Operand.tmp 80, Operand.tmp 84], argTypes := #[30, 30] }, type := 3, pos := "law.go:92", after := #[{ on := 18, ground := Ground.data }, { on := 22, ground := Ground.data }, { on := 22, ground := Ground.chain }, { on := 17, ground := Ground.guard }], guard := some (17, true) } : Oper)) rfl (fun K hK => ?_) AllReadyH.nil
        go_simp
        with_reducible refine (DCmp_any z_s.zr zb.zr (by omega) (by omega)).mono ?_
        rintro e v14 ⟨rfl, hb1⟩
        replace x_x := x_x.keep hb1
        replace x_y := x_y.keep hb1
        replace x_z := x_z.keep hb1
        replace x_s := x_s.keep hb1
        replace hT := hT.keep hb1
        replace z_x := z_x.keep hb1
        replace z_y := z_y.keep hb1
        replace z_z := z_z.keep hb1
        replace z_s := z_s.keep hb1
        replace za := za.keep hb1
        replace zb := zb.keep hb1
        replace hb := bthen hb hb1
        clear hb1
        replace q_x0 := x_x.c0; replace q_x1 := x_x.c1; replace f_x0 := x_x.fr 0; replace f_x1 := x_x.fr 1; replace q_x2 := x_x.c2; replace f_x2 := x_x.fr 2
        replace q_y0 := x_y.c0; replace q_y1 := x_y.c1; replace f_y0 := x_y.fr 0; replace f_y1 := x_y.fr 1; replace q_y2 := x_y.c2; replace f_y2 := x_y.fr 2
        replace q_z0 := x_z.c0; replace q_z1 := x_z.c1; replace f_z0 := x_z.fr 0; replace f_z1 := x_z.fr 1; replace q_z2 := x_z.c2; replace f_z2 := x_z.fr 2
        replace q_s0 := x_s.c0; replace q_s1 := x_s.c1; replace f_s0 := x_s.fr 0; replace f_s1 := x_s.fr 1; replace q_s2 := x_s.c2; replace f_s2 := x_s.fr 2
        rw [HC0.out]
        (try go_wp2_with fail)
        refine hK.out _ _ (by exact ⟨x_x.c0, x_x.c1, x_x.c2, x_y.c0, x_y.c1, x_y.c2, x_s.c0, x_s.c1, x_s.c2⟩) (fun hHeld => ?_)
        clear hK K
        (try simp only [Act.put, List.setIfInBounds_toArray, List.set_cons_zero, List.set_cons_succ])
        refine wpAnyH_take (i := 24) (oi := ({ dst := some 86, op := Op.binOp BinOp.eql 3 (Operand.tmp 85) (Operand.const (Value.int IntKind.i64 0)) 3, type := 4, pos := "law.go:92", after := #[{ on := 23, ground := Ground.data }, { on := 17, ground := Ground.guard }], guard := some (17, true) } : Oper)) (v := ?_) rfl (by kernel_rfl) (by kernel_rfl) (by kernel_rfl) (fun _ _ _ h => h) (Or.inl ⟨by rfl, ?_⟩) (by assumption) ?_
        rotate_left
        · (intro w9 hSw; (try dsimp only at hSw); go_simp; all_goals with_reducible rfl)
        (try simp only [Act.put, List.setIfInBounds_toArray, List.set_cons_zero, List.set_cons_succ])
        refine wpAnyH_take (i := 25) (oi := ({ dst := some 87, op := Op.pick (Operand.tmp 79) (Operand.tmp 86) (Operand.const (Value.bool false)), type := 4, pos := "law.go:92", after := #[{ on := 17, ground := Ground.data }, { on := 24, ground := Ground.data }, { on := 14, ground := Ground.guard }], guard := some (14, false) } : Oper)) (v := ?_) rfl (by kernel_rfl) (by kernel_rfl) (by kernel_rfl) (fun _ _ _ h => h) (Or.inl ⟨by rfl, ?_⟩) (by assumption) ?_
        rotate_left
        · (intro w9 hSw; (try dsimp only at hSw); go_simp; all_goals with_reducible rfl)
        (try simp only [Act.put, List.setIfInBounds_toArray, List.set_cons_zero, List.set_cons_succ])
        refine wpAnyH_take (i := 26) (oi := ({ dst := some 88, op := Op.pick (Operand.tmp 76) (Operand.const (Value.bool true)) (Operand.tmp 87), type := 4, pos := "law.go:92", after := #[{ on := 14, ground := Ground.data }, { on := 25, ground := Ground.data }, { on := 8, ground := Ground.guard }], guard := some (8, true) } : Oper)) (v := ?_) rfl (by kernel_rfl) (by kernel_rfl) (by kernel_rfl) (fun _ _ _ h => h) (Or.inl ⟨by rfl, ?_⟩) (by assumption) ?_
        rotate_left
        · (intro w9 hSw; (try dsimp only at hSw); go_simp; all_goals with_reducible rfl)
        (try simp only [Act.put, List.setIfInBounds_toArray, List.set_cons_zero, List.set_cons_succ])
        refine wpAnyH_take (i := 27) (oi := ({ dst := some 89, op := Op.pick (Operand.tmp 70) (Operand.tmp 88) (Operand.const (Value.bool false)), type := 4, pos := "law.go:92", after := #[{ on := 8, ground := Ground.data }, { on := 26, ground := Ground.data }], guard := none } : Oper)) (v := ?_) rfl (by kernel_rfl) (by kernel_rfl) (by kernel_rfl) (fun _ _ _ h => h) (Or.inl ⟨by rfl, ?_⟩) (by assumption) ?_
        rotate_left
        · (intro w9 hSw; (try dsimp only at hSw); go_simp; all_goals with_reducible rfl)
        (try simp only [Act.put, List.setIfInBounds_toArray, List.set_cons_zero, List.set_cons_succ])
        refine wpAnyH_take (i := 28) (oi := ({ dst := some 4, op := Op.assign (Operand.tmp 89), type := 4, pos := "law.go:92", after := #[{ on := 27, ground := Ground.data }, { on := 23, ground := Ground.chain }, { on := 0, ground := Ground.phase }, { on := 1, ground := Ground.phase }, { on := 2, ground := Ground.phase }, { on := 3, ground := Ground.phase }, { on := 4, ground := Ground.phase }, { on := 5, ground := Ground.phase }, { on := 6, ground := Ground.phase }, { on := 7, ground := Ground.phase }, { on := 8, ground := Ground.phase }, { on := 9, ground := Ground.phase }, { on := 10, ground := Ground.phase }, { on := 11, ground := Ground.phase }, { on := 12, ground := Ground.phase }, { on := 13, ground := Ground.phase }, { on := 14, ground := Ground.phase }, { on := 15, ground := Ground.phase }, { on := 16, ground := Ground.phase }, { on := 17, ground := Ground.phase }, { on := 18, ground := Ground.phase }, { on := 19, ground := Ground.phase }, { on := 20, ground := Ground.phase }, { on := 21, ground := Ground.phase }, { on := 22, ground := Ground.phase }, { on := 23, ground := Ground.phase }, { on := 24, ground := Ground.phase }, { on := 25, ground := Ground.phase }, { on := 26, ground := Ground.phase }, { on := 27, ground := Ground.phase }], guard := none } : Oper)) (v := ?_) rfl (by kernel_rfl) (by kernel_rfl) (by kernel_rfl) (fun _ _ _ h => h) (Or.inl ⟨by rfl, ?_⟩) (by assumption) ?_
        rotate_left
        · (intro w9 hSw; (try dsimp only at hSw); go_simp; all_goals with_reducible rfl)
        (try simp only [Act.put, List.setIfInBounds_toArray, List.set_cons_zero, List.set_cons_succ])
        refine wpAnyH_done (by kernel_rfl) ?_ _
        go_wp2
        go_ret
        exact ⟨rfl, hb⟩
      · have hg := hcm.2.1 hl
        have hl2 : ¬ a < b := by omega
        have HG := Lib.hid hg; clear hg hcm
        have hb := Below.refl w.heap.size w
        go_enter Tryd.func5, Tryd.ntmps5
        go_wp2_with fail
        with_reducible refine (Bshown_any hT).mono ?_
        rintro e v1 ⟨rfl, hb1⟩
        replace hT := hT.keep hb1
        replace hb := bthen hb hb1
        clear hb1
        go_wp2_with fail
        with_reducible refine (Value_any _ a rfl HL.out.1 hT HF.out.1).mono ?_
        rintro e v2 ⟨A1, n1, c1, rfl, z_x, hb1⟩
        replace hT := hT.keep hb1
        replace hb := bthen hb hb1
        clear hb1
        rw [HQ.out.1] at z_x
        rw [HQ.out.1, HQ.out.2]
        go_wp2_with fail
        have hb1 := below_alloc v2 (.cells #[.bool (ngB Q), .slice A1 n1 c1, .int .i64 E] 30)
        have x_x := Dx.new v2 (ngB Q) A1 n1 c1 E
        have e_x : w.heap.size ≤ v2.heap.size := hb.size
        replace hT := hT.keep hb1
        replace z_x := z_x.keep hb1
        replace hb := bthen hb hb1
        clear hb1
        generalize v2.alloc (.cells #[.bool (ngB Q), .slice A1 n1 c1, .int .i64 E] 30) = v3 at *
        have q_x0 := x_x.c0; have q_x1 := x_x.c1; have f_x0 := x_x.fr 0; have f_x1 := x_x.fr 1; have q_x2 := x_x.c2; have f_x2 := x_x.fr 2
        skip
        with_reducible refine (Value_any _ b rfl HL.out.2 hT HF.out.2).mono ?_
        rintro e v4 ⟨A2, n2, c2, rfl, z_y, hb1⟩
        replace x_x := x_x.keep hb1
        replace hT := hT.keep hb1
        replace z_x := z_x.keep hb1
        replace hb := bthen hb hb1
        clear hb1
        replace q_x0 := x_x.c0; replace q_x1 := x_x.c1; replace f_x0 := x_x.fr 0; replace f_x1 := x_x.fr 1; replace q_x2 := x_x.c2; replace f_x2 := x_x.fr 2
        rw [HR.out.1] at z_y
        rw [HR.out.1, HR.out.2]
        have y_x := (x_x.alloc (.cells #[.bool (ngB R), .slice A2 n2 c2, .int .i64 F] 30)); have yq_x0 := y_x.c0; have yq_x1 := y_x.c1; have yq_x2 := y_x.c2
        go_wp2_with fail
        clear y_x yq_x0 yq_x1 yq_x2
        have hb1 := below_alloc v4 (.cells #[.bool (ngB R), .slice A2 n2 c2, .int .i64 F] 30)
        have l_x_y := x_x.lt
        have x_y := Dx.new v4 (ngB R) A2 n2 c2 F
        have e_y : w.heap.size ≤ v4.heap.size := hb.size
        replace x_x := x_x.keep hb1
        replace hT := hT.keep hb1
        replace z_x := z_x.keep hb1
        replace z_y := z_y.keep hb1
        replace hb := bthen hb hb1
        clear hb1
        replace q_x0 := x_x.c0; replace q_x1 := x_x.c1; replace f_x0 := x_x.fr 0; replace f_x1 := x_x.fr 1; replace q_x2 := x_x.c2; replace f_x2 := x_x.fr 2
        clear q_x0 q_x1 f_x0 f_x1 q_x2 f_x2
        generalize v4.alloc (.cells #[.bool (ngB R), .slice A2 n2 c2, .int .i64 F] 30) = v5 at *
        have q_x0 := x_x.c0; have q_x1 := x_x.c1; have f_x0 := x_x.fr 0; have f_x1 := x_x.fr 1; have q_x2 := x_x.c2; have f_x2 := x_x.fr 2
        have q_y0 := x_y.c0; have q_y1 := x_y.c1; have f_y0 := x_y.fr 0; have f_y1 := x_y.fr 1; have q_y2 := x_y.c2; have f_y2 := x_y.fr 2
        skip
        with_reducible refine (Binade_no _ a rfl HL.out.1 HN.out).mono ?_
        rintro e v6 ⟨rfl, hb1⟩
        replace x_x := x_x.keep hb1
        replace x_y := x_y.keep hb1
        replace hT := hT.keep hb1
        replace z_x := z_x.keep hb1
        replace z_y := z_y.keep hb1
        replace hb := bthen hb hb1
        clear hb1
        replace q_x0 := x_x.c0; replace q_x1 := x_x.c1; replace f_x0 := x_x.fr 0; replace f_x1 := x_x.fr 1; replace q_x2 := x_x.c2; replace f_x2 := x_x.fr 2
        replace q_y0 := x_y.c0; replace q_y1 := x_y.c1; replace f_y0 := x_y.fr 0; replace f_y1 := x_y.fr 1; replace q_y2 := x_y.c2; replace f_y2 := x_y.fr 2
        go_wp2_with fail
        with_reducible refine (Value_any _ z1 rfl HK.out.2 hT HK.out.1).mono ?_
        rintro e v7 ⟨A3, n3, c3, rfl, z_z, hb1⟩
        replace x_x := x_x.keep hb1
        replace x_y := x_y.keep hb1
        replace hT := hT.keep hb1
        replace z_x := z_x.keep hb1
        replace z_y := z_y.keep hb1
        replace hb := bthen hb hb1
        clear hb1
        replace q_x0 := x_x.c0; replace q_x1 := x_x.c1; replace f_x0 := x_x.fr 0; replace f_x1 := x_x.fr 1; replace q_x2 := x_x.c2; replace f_x2 := x_x.fr 2
        replace q_y0 := x_y.c0; replace q_y1 := x_y.c1; replace f_y0 := x_y.fr 0; replace f_y1 := x_y.fr 1; replace q_y2 := x_y.c2; replace f_y2 := x_y.fr 2
        rw [HU.out.1] at z_z
        rw [HU.out.1, HU.out.2]
        have y_x := (x_x.alloc (.cells #[.bool (ngB U), .slice A3 n3 c3, .int .i64 G] 30)); have yq_x0 := y_x.c0; have yq_x1 := y_x.c1; have yq_x2 := y_x.c2
        have y_y := (x_y.alloc (.cells #[.bool (ngB U), .slice A3 n3 c3, .int .i64 G] 30)); have yq_y0 := y_y.c0; have yq_y1 := y_y.c1; have yq_y2 := y_y.c2
        go_wp2_with fail
        clear y_x yq_x0 yq_x1 yq_x2 y_y yq_y0 yq_y1 yq_y2
        have hb1 := below_alloc v7 (.cells #[.bool (ngB U), .slice A3 n3 c3, .int .i64 G] 30)
        have l_x_z := x_x.lt
        have l_y_z := x_y.lt
        have x_z := Dx.new v7 (ngB U) A3 n3 c3 G
        have e_z : w.heap.size ≤ v7.heap.size := hb.size
        replace x_x := x_x.keep hb1
        replace x_y := x_y.keep hb1
        replace hT := hT.keep hb1
        replace z_x := z_x.keep hb1
        replace z_y := z_y.keep hb1
        replace z_z := z_z.keep hb1
        replace hb := bthen hb hb1
        clear hb1
        replace q_x0 := x_x.c0; replace q_x1 := x_x.c1; replace f_x0 := x_x.fr 0; replace f_x1 := x_x.fr 1; replace q_x2 := x_x.c2; replace f_x2 := x_x.fr 2
        replace q_y0 := x_y.c0; replace q_y1 := x_y.c1; replace f_y0 := x_y.fr 0; replace f_y1 := x_y.fr 1; replace q_y2 := x_y.c2; replace f_y2 := x_y.fr 2
        clear q_x0 q_x1 f_x0 f_x1 q_x2 f_x2 q_y0 q_y1 f_y0 f_y1 q_y2 f_y2
        generalize v7.alloc (.cells #[.bool (ngB U), .slice A3 n3 c3, .int .i64 G] 30) = v8 at *
        have q_x0 := x_x.c0; have q_x1 := x_x.c1; have f_x0 := x_x.fr 0; have f_x1 := x_x.fr 1; have q_x2 := x_x.c2; have f_x2 := x_x.fr 2
        have q_y0 := x_y.c0; have q_y1 := x_y.c1; have f_y0 := x_y.fr 0; have f_y1 := x_y.fr 1; have q_y2 := x_y.c2; have f_y2 := x_y.fr 2
        have q_z0 := x_z.c0; have q_z1 := x_z.c1; have f_z0 := x_z.fr 0; have f_z1 := x_z.fr 1; have q_z2 := x_z.c2; have f_z2 := x_z.fr 2
        skip
        with_reducible refine (DSub_any z_z.zr z_x.zr hT 200 (by omega) (by omega) (by omega)).mono ?_
        rintro e v9 ⟨A4, n4, c4, rfl, z_s, hb1⟩
        replace x_x := x_x.keep hb1
        replace x_y := x_y.keep hb1
        replace x_z := x_z.keep hb1
        replace hT := hT.keep hb1
        replace z_x := z_x.keep hb1
        replace z_y := z_y.keep hb1
        replace z_z := z_z.keep hb1
        replace hb := bthen hb hb1
        clear hb1
        replace q_x0 := x_x.c0; replace q_x1 := x_x.c1; replace f_x0 := x_x.fr 0; replace f_x1 := x_x.fr 1; replace q_x2 := x_x.c2; replace f_x2 := x_x.fr 2
        replace q_y0 := x_y.c0; replace q_y1 := x_y.c1; replace f_y0 := x_y.fr 0; replace f_y1 := x_y.fr 1; replace q_y2 := x_y.c2; replace f_y2 := x_y.fr 2
        replace q_z0 := x_z.c0; replace q_z1 := x_z.c1; replace f_z0 := x_z.fr 0; replace f_z1 := x_z.fr 1; replace q_z2 := x_z.c2; replace f_z2 := x_z.fr 2
        rw [HST.out.1] at z_s
        rw [HST.out.1, HST.out.2]
        have y_x := (x_x.alloc (.cells #[.bool (ngB 1), .slice A4 n4 c4, .int .i64 (exN a)] 30)); have yq_x0 := y_x.c0; have yq_x1 := y_x.c1; have yq_x2 := y_x.c2
        have y_y := (x_y.alloc (.cells #[.bool (ngB 1), .slice A4 n4 c4, .int .i64 (exN a)] 30)); have yq_y0 := y_y.c0; have yq_y1 := y_y.c1; have yq_y2 := y_y.c2
        have y_z := (x_z.alloc (.cells #[.bool (ngB 1), .slice A4 n4 c4, .int .i64 (exN a)] 30)); have yq_z0 := y_z.c0; have yq_z1 := y_z.c1; have yq_z2 := y_z.c2
        go_wp2_with fail
        clear y_x yq_x0 yq_x1 yq_x2 y_y yq_y0 yq_y1 yq_y2 y_z yq_z0 yq_z1 yq_z2
        have hb1 := below_alloc v9 (.cells #[.bool (ngB 1), .slice A4 n4 c4, .int .i64 (exN a)] 30)
        have l_x_s := x_x.lt
        have l_y_s := x_y.lt
        have l_z_s := x_z.lt
        have x_s := Dx.new v9 (ngB 1) A4 n4 c4 (exN a)
        have e_s : w.heap.size ≤ v9.heap.size := hb.size
        replace x_x := x_x.keep hb1
        replace x_y := x_y.keep hb1
        replace x_z := x_z.keep hb1
        replace hT := hT.keep hb1
        replace z_x := z_x.keep hb1
        replace z_y := z_y.keep hb1
        replace z_z := z_z.keep hb1
        replace z_s := z_s.keep hb1
        replace hb := bthen hb hb1
        clear hb1
        replace q_x0 := x_x.c0; replace q_x1 := x_x.c1; replace f_x0 := x_x.fr 0; replace f_x1 := x_x.fr 1; replace q_x2 := x_x.c2; replace f_x2 := x_x.fr 2
        replace q_y0 := x_y.c0; replace q_y1 := x_y.c1; replace f_y0 := x_y.fr 0; replace f_y1 := x_y.fr 1; replace q_y2 := x_y.c2; replace f_y2 := x_y.fr 2
        replace q_z0 := x_z.c0; replace q_z1 := x_z.c1; replace f_z0 := x_z.fr 0; replace f_z1 := x_z.fr 1; replace q_z2 := x_z.c2; replace f_z2 := x_z.fr 2
        clear q_x0 q_x1 f_x0 f_x1 q_x2 f_x2 q_y0 q_y1 f_y0 f_y1 q_y2 f_y2 q_z0 q_z1 f_z0 f_z1 q_z2 f_z2
        generalize v9.alloc (.cells #[.bool (ngB 1), .slice A4 n4 c4, .int .i64 (exN a)] 30) = v10 at *
        have q_x0 := x_x.c0; have q_x1 := x_x.c1; have f_x0 := x_x.fr 0; have f_x1 := x_x.fr 1; have q_x2 := x_x.c2; have f_x2 := x_x.fr 2
        have q_y0 := x_y.c0; have q_y1 := x_y.c1; have f_y0 := x_y.fr 0; have f_y1 := x_y.fr 1; have q_y2 := x_y.c2; have f_y2 := x_y.fr 2
        have q_z0 := x_z.c0; have q_z1 := x_z.c1; have f_z0 := x_z.fr 0; have f_z1 := x_z.fr 1; have q_z2 := x_z.c2; have f_z2 := x_z.fr 2
        have q_s0 := x_s.c0; have q_s1 := x_s.c1; have f_s0 := x_s.fr 0; have f_s1 := x_s.fr 1; have q_s2 := x_s.c2; have f_s2 := x_s.fr 2
        refine wp_region_held_drew (S := fun w' => w'.cell? ⟨v2.heap.size, 0, none⟩ = some (.bool (ngB Q)) ∧ w'.cell? ⟨v2.heap.size, 1, none⟩ = some (.slice A1 n1 c1) ∧ w'.cell? ⟨v2.heap.size, 2, none⟩ = some (.int .i64 E) ∧ w'.cell? ⟨v4.heap.size, 0, none⟩ = some (.bool (ngB R)) ∧ w'.cell? ⟨v4.heap.size, 1, none⟩ = some (.slice A2 n2 c2) ∧ w'.cell? ⟨v4.heap.size, 2, none⟩ = some (.int .i64 F) ∧ w'.cell? ⟨v9.heap.size, 0, none⟩ = some (.bool (ngB 1)) ∧ w'.cell? ⟨v9.heap.size, 1, none⟩ = some (.slice A4 n4 c4) ∧ w'.cell? ⟨v9.heap.size, 2, none⟩ = some (.int .i64 (exN a))) (by kernel_rfl) (by exact ⟨x_x.c0, x_x.c1, x_x.c2, x_y.c0, x_y.c1, x_y.c2, x_s.c0, x_s.c1, x_s.c2⟩) (fun hHeld => ?_)
        refine wpAnyH_take (i := 0) (oi := ({ dst := some 62, op := Op.move (Operand.tmp 5), type := 4, pos := "law.go:92", after := #[], guard := none } : Oper)) (v := ?_) rfl (by kernel_rfl) (by kernel_rfl) (by kernel_rfl) (fun _ _ _ h => h) (Or.inl ⟨by rfl, ?_⟩) (by assumption) ?_
        rotate_left
        · (intro w9 hSw; (try dsimp only at hSw); go_simp; all_goals with_reducible rfl)
        (try simp only [Act.put, List.setIfInBounds_toArray, List.set_cons_zero, List.set_cons_succ])
        refine wpAnyH_take (i := 1) (oi := ({ dst := some 63, op := Op.move (Operand.tmp 62), type := 4, pos := "law.go:92", after := #[{ on := 0, ground := Ground.data }], guard := none } : Oper)) (v := ?_) rfl (by kernel_rfl) (by kernel_rfl) (by kernel_rfl) (fun _ _ _ h => h) (Or.inl ⟨by rfl, ?_⟩) (by assumption) ?_
        rotate_left
        · (intro w9 hSw; (try dsimp only at hSw); go_simp; all_goals with_reducible rfl)
        (try simp only [Act.put, List.setIfInBounds_toArray, List.set_cons_zero, List.set_cons_succ])
        refine wpAnyH_take (i := 2) (oi := ({ dst := some 64, op := Op.load 30 (Operand.tmp 6), type := 30, pos := "law.go:92", after := #[{ on := 1, ground := Ground.guard }], guard := some (1, true) } : Oper)) (v := ?_) rfl (by kernel_rfl) (by kernel_rfl) (by kernel_rfl) (fun _ _ _ h => h) (Or.inl ⟨by rfl, ?_⟩) (by assumption) ?_
        rotate_left
        · (intro w9 hSw; (try dsimp only at hSw); go_simp; all_goals with_reducible rfl)
        (try simp only [Act.put, List.setIfInBounds_toArray, List.set_cons_zero, List.set_cons_succ])
        refine wpAnyH_take (i := 3) (oi := ({ dst := some 65, op := Op.load 30 (Operand.tmp 8), type := 30, pos := "law.go:92", after := #[{ on := 1, ground := Ground.guard }], guard := some (1, true) } : Oper)) (v := ?_) rfl (by kernel_rfl) (by kernel_rfl) (by kernel_rfl) (fun _ _ _ h => h) (Or.inl ⟨by rfl, ?_⟩) (by assumption) ?_
        rotate_left
        · (intro w9 hSw; (try dsimp only at hSw); go_simp; all_goals with_reducible rfl)
        (try simp only [Act.put, List.setIfInBounds_toArray, List.set_cons_zero, List.set_cons_succ])
        refine wpAnyH_take (i := 5) (oi := ({ dst := some 67, op := Op.move (Operand.tmp 10), type := 3, pos := "law.go:92", after := #[{ on := 1, ground := Ground.guard }], guard := some (1, true) } : Oper)) (v := ?_) rfl (by kernel_rfl) (by kernel_rfl) (by kernel_rfl) (fun _ _ _ h => h) (Or.inl ⟨by rfl, ?_⟩) (by assumption) ?_
        rotate_left
        · (intro w9 hSw; (try dsimp only at hSw); go_simp; all_goals with_reducible rfl)
        (try simp only [Act.put, List.setIfInBounds_toArray, List.set_cons_zero, List.set_cons_succ])
        refine wpAnyH_ready (rs := [4]) (by kernel_rfl) (by simp) ?_
        refine AllReadyH.cons (o := ({ dst := some 66, op := Op.call { callee := Callee.value (Operand.func 20), args := #[Operand.tmp 64, Operand.tmp 65], argTypes := #[30, 30] }, type := 3, pos := "law.go:92", after := #[{ on := 2, ground := Ground.data }, { on := 3, ground := Ground.data }, { on := 1, ground := Ground.chain }, { on := 1, ground := Ground.guard }], guard := some (1, true) } : Oper)) rfl (fun K hK => ?_) AllReadyH.nil
        go_simp
        with_reducible refine (DCmp_any z_x.zr.drw z_y.zr.drw (by omega) (by omega)).mono ?_
        rintro e v11 ⟨rfl, hb1⟩
        replace hb1 := undrew hb1
        replace x_x := x_x.keep hb1
        replace x_y := x_y.keep hb1
        replace x_z := x_z.keep hb1
        replace x_s := x_s.keep hb1
        replace hT := hT.keep hb1
        replace z_x := z_x.keep hb1
        replace z_y := z_y.keep hb1
        replace z_z := z_z.keep hb1
        replace z_s := z_s.keep hb1
        replace hb := bthen hb hb1
        clear hb1
        replace q_x0 := x_x.c0; replace q_x1 := x_x.c1; replace f_x0 := x_x.fr 0; replace f_x1 := x_x.fr 1; replace q_x2 := x_x.c2; replace f_x2 := x_x.fr 2
        replace q_y0 := x_y.c0; replace q_y1 := x_y.c1; replace f_y0 := x_y.fr 0; replace f_y1 := x_y.fr 1; replace q_y2 := x_y.c2; replace f_y2 := x_y.fr 2
        replace q_z0 := x_z.c0; replace q_z1 := x_z.c1; replace f_z0 := x_z.fr 0; replace f_z1 := x_z.fr 1; replace q_z2 := x_z.c2; replace f_z2 := x_z.fr 2
        replace q_s0 := x_s.c0; replace q_s1 := x_s.c1; replace f_s0 := x_s.fr 0; replace f_s1 := x_s.fr 1; replace q_s2 := x_s.c2; replace f_s2 := x_s.fr 2
        rw [HC.out, HG.out]
        (try go_wp2_with fail)
        refine hK.out _ _ (by exact ⟨x_x.c0, x_x.c1, x_x.c2, x_y.c0, x_y.c1, x_y.c2, x_s.c0, x_s.c1, x_s.c2⟩) (fun hHeld => ?_)
        clear hK K
        (try simp only [Act.put, List.setIfInBounds_toArray, List.set_cons_zero, List.set_cons_succ])
        refine wpAnyH_take (i := 6) (oi := ({ dst := some 68, op := Op.binOp BinOp.eql 3 (Operand.tmp 66) (Operand.tmp 67) 3, type := 4, pos := "law.go:92", after := #[{ on := 4, ground := Ground.data }, { on := 5, ground := Ground.data }, { on := 1, ground := Ground.guard }], guard := some (1, true) } : Oper)) (v := ?_) rfl (by kernel_rfl) (by kernel_rfl) (by kernel_rfl) (fun _ _ _ h => h) (Or.inl ⟨by rfl, ?_⟩) (by assumption) ?_
        rotate_left
        · (intro w9 hSw; (try dsimp only at hSw); go_simp; all_goals with_reducible rfl)
        (try simp only [Act.put, List.setIfInBounds_toArray, List.set_cons_zero, List.set_cons_succ])
        refine wpAnyH_take (i := 7) (oi := ({ dst := some 69, op := Op.pick (Operand.tmp 63) (Operand.tmp 68) (Operand.const (Value.bool false)), type := 4, pos := "law.go:92", after := #[{ on := 1, ground := Ground.data }, { on := 6, ground := Ground.data }], guard := none } : Oper)) (v := ?_) rfl (by kernel_rfl) (by kernel_rfl) (by kernel_rfl) (fun _ _ _ h => h) (Or.inl ⟨by rfl, ?_⟩) (by assumption) ?_
        rotate_left
        · (intro w9 hSw; (try dsimp only at hSw); go_simp; all_goals with_reducible rfl)
        (try simp only [Act.put, List.setIfInBounds_toArray, List.set_cons_zero, List.set_cons_succ])
        refine wpAnyH_take (i := 8) (oi := ({ dst := some 70, op := Op.move (Operand.tmp 69), type := 4, pos := "law.go:92", after := #[{ on := 7, ground := Ground.data }, { on := 4, ground := Ground.chain }], guard := none } : Oper)) (v := ?_) rfl (by kernel_rfl) (by kernel_rfl) (by kernel_rfl) (fun _ _ _ h => h) (Or.inl ⟨by rfl, ?_⟩) (by assumption) ?_
        rotate_left
        · (intro w9 hSw; (try dsimp only at hSw); go_simp; all_goals with_reducible rfl)
        (try simp only [Act.put, List.setIfInBounds_toArray, List.set_cons_zero, List.set_cons_succ])
        refine wpAnyH_take (i := 9) (oi := ({ dst := some 71, op := Op.move (Operand.tmp 16), type := 4, pos := "law.go:92", after := #[{ on := 8, ground := Ground.guard }], guard := some (8, true) } : Oper)) (v := ?_) rfl (by kernel_rfl) (by kernel_rfl) (by kernel_rfl) (fun _ _ _ h => h) (Or.inl ⟨by rfl, ?_⟩) (by assumption) ?_
        rotate_left
        · (intro w9 hSw; (try dsimp only at hSw); go_simp; all_goals with_reducible rfl)
        (try simp only [Act.put, List.setIfInBounds_toArray, List.set_cons_zero, List.set_cons_succ])
        refine wpAnyH_take (i := 10) (oi := ({ dst := some 72, op := Op.move (Operand.tmp 71), type := 4, pos := "law.go:92", after := #[{ on := 9, ground := Ground.data }, { on := 8, ground := Ground.chain }, { on := 8, ground := Ground.guard }], guard := some (8, true) } : Oper)) (v := ?_) rfl (by kernel_rfl) (by kernel_rfl) (by kernel_rfl) (fun _ _ _ h => h) (Or.inl ⟨by rfl, ?_⟩) (by assumption) ?_
        rotate_left
        · (intro w9 hSw; (try dsimp only at hSw); go_simp; all_goals with_reducible rfl)
        (try simp only [Act.put, List.setIfInBounds_toArray, List.set_cons_zero, List.set_cons_succ])
        refine wpAnyH_take (i := 11) (oi := ({ dst := some 73, op := Op.move (Operand.tmp 14), type := 31, pos := "law.go:92", after := #[{ on := 10, ground := Ground.guard }], guard := some (10, true) } : Oper)) (v := undef) rfl (by kernel_rfl) (by kernel_rfl) (by kernel_rfl) (fun _ _ _ h => h) (Or.inr ⟨by rfl, rfl⟩) (by assumption) ?_
        (try simp only [Act.put, List.setIfInBounds_toArray, List.set_cons_zero, List.set_cons_succ])
        refine wpAnyH_take (i := 12) (oi := ({ dst := some 74, op := Op.binOp BinOp.eql 31 (Operand.tmp 73) (Operand.const (Value.int IntKind.i64 1)) 31, type := 4, pos := "law.go:92", after := #[{ on := 11, ground := Ground.data }, { on := 10, ground := Ground.guard }], guard := some (10, true) } : Oper)) (v := undef) rfl (by kernel_rfl) (by kernel_rfl) (by kernel_rfl) (fun _ _ _ h => h) (Or.inr ⟨by rfl, rfl⟩) (by assumption) ?_
        (try simp only [Act.put, List.setIfInBounds_toArray, List.set_cons_zero, List.set_cons_succ])
        refine wpAnyH_take (i := 13) (oi := ({ dst := some 75, op := Op.pick (Operand.tmp 72) (Operand.tmp 74) (Operand.const (Value.bool false)), type := 4, pos := "law.go:92", after := #[{ on := 10, ground := Ground.data }, { on := 12, ground := Ground.data }, { on := 8, ground := Ground.guard }], guard := some (8, true) } : Oper)) (v := ?_) rfl (by kernel_rfl) (by kernel_rfl) (by kernel_rfl) (fun _ _ _ h => h) (Or.inl ⟨by rfl, ?_⟩) (by assumption) ?_
        rotate_left
        · (intro w9 hSw; (try dsimp only at hSw); go_simp; all_goals with_reducible rfl)
        (try simp only [Act.put, List.setIfInBounds_toArray, List.set_cons_zero, List.set_cons_succ])
        refine wpAnyH_take (i := 14) (oi := ({ dst := some 76, op := Op.move (Operand.tmp 75), type := 4, pos := "law.go:92", after := #[{ on := 13, ground := Ground.data }, { on := 10, ground := Ground.chain }, { on := 8, ground := Ground.guard }], guard := some (8, true) } : Oper)) (v := ?_) rfl (by kernel_rfl) (by kernel_rfl) (by kernel_rfl) (fun _ _ _ h => h) (Or.inl ⟨by rfl, ?_⟩) (by assumption) ?_
        rotate_left
        · (intro w9 hSw; (try dsimp only at hSw); go_simp; all_goals with_reducible rfl)
        (try simp only [Act.put, List.setIfInBounds_toArray, List.set_cons_zero, List.set_cons_succ])
        refine wpAnyH_take (i := 15) (oi := ({ dst := some 77, op := Op.move (Operand.tmp 16), type := 4, pos := "law.go:92", after := #[{ on := 14, ground := Ground.guard }], guard := some (14, false) } : Oper)) (v := ?_) rfl (by kernel_rfl) (by kernel_rfl) (by kernel_rfl) (fun _ _ _ h => h) (Or.inl ⟨by rfl, ?_⟩) (by assumption) ?_
        rotate_left
        · (intro w9 hSw; (try dsimp only at hSw); go_simp; all_goals with_reducible rfl)
        (try simp only [Act.put, List.setIfInBounds_toArray, List.set_cons_zero, List.set_cons_succ])
        refine wpAnyH_take (i := 16) (oi := ({ dst := some 78, op := Op.unOp UnOp.not 4 (Operand.tmp 77), type := 4, pos := "law.go:92", after := #[{ on := 15, ground := Ground.data }, { on := 14, ground := Ground.guard }], guard := some (14, false) } : Oper)) (v := ?_) rfl (by kernel_rfl) (by kernel_rfl) (by kernel_rfl) (fun _ _ _ h => h) (Or.inl ⟨by rfl, ?_⟩) (by assumption) ?_
        rotate_left
        · (intro w9 hSw; (try dsimp only at hSw); go_simp; all_goals with_reducible rfl)
        (try simp only [Act.put, List.setIfInBounds_toArray, List.set_cons_zero, List.set_cons_succ])
        refine wpAnyH_take (i := 17) (oi := ({ dst := some 79, op := Op.move (Operand.tmp 78), type := 4, pos := "law.go:92", after := #[{ on := 16, ground := Ground.data }, { on := 14, ground := Ground.chain }, { on := 14, ground := Ground.guard }], guard := some (14, false) } : Oper)) (v := ?_) rfl (by kernel_rfl) (by kernel_rfl) (by kernel_rfl) (fun _ _ _ h => h) (Or.inl ⟨by rfl, ?_⟩) (by assumption) ?_
        rotate_left
        · (intro w9 hSw; (try dsimp only at hSw); go_simp; all_goals with_reducible rfl)
        (try simp only [Act.put, List.setIfInBounds_toArray, List.set_cons_zero, List.set_cons_succ])
        refine wpAnyH_take (i := 18) (oi := ({ dst := some 80, op := Op.load 30 (Operand.tmp 15), type := 30, pos := "law.go:92", after := #[{ on := 17, ground := Ground.guard }], guard := some (17, true) } : Oper)) (v := ?_) rfl (by kernel_rfl) (by kernel_rfl) (by kernel_rfl) (fun _ _ _ h => h) (Or.inl ⟨by rfl, ?_⟩) (by assumption) ?_
        rotate_left
        · (intro w9 hSw; (try dsimp only at hSw); go_simp; all_goals with_reducible rfl)
        (try simp only [Act.put, List.setIfInBounds_toArray, List.set_cons_zero, List.set_cons_succ])
        refine wpAnyH_take (i := 20) (oi := ({ dst := some 82, op := Op.move (Operand.tmp 11), type := 3, pos := "law.go:92", after := #[{ on := 17, ground := Ground.guard }], guard := some (17, true) } : Oper)) (v := ?_) rfl (by kernel_rfl) (by kernel_rfl) (by kernel_rfl) (fun _ _ _ h => h) (Or.inl ⟨by rfl, ?_⟩) (by assumption) ?_
        rotate_left
        · (intro w9 hSw; (try dsimp only at hSw); go_simp; all_goals with_reducible rfl)
        (try simp only [Act.put, List.setIfInBounds_toArray, List.set_cons_zero, List.set_cons_succ])
        refine wpAnyH_take (i := 21) (oi := ({ dst := some 83, op := Op.binOp BinOp.sub 3 (Operand.tmp 82) (Operand.const (Value.int IntKind.i64 52)) 3, type := 3, pos := "law.go:92", after := #[{ on := 20, ground := Ground.data }, { on := 17, ground := Ground.guard }], guard := some (17, true) } : Oper)) (v := ?_) rfl (by kernel_rfl) (by kernel_rfl) (by kernel_rfl) (fun _ _ _ h => h) (Or.inl ⟨by rfl, ?_⟩) (by assumption) ?_
        rotate_left
        · (intro w9 hSw; (try dsimp only at hSw); go_simp; all_goals with_reducible rfl)
        (try simp only [Act.put, List.setIfInBounds_toArray, List.set_cons_zero, List.set_cons_succ])
        refine wpAnyH_ready (rs := [19]) (by kernel_rfl) (by simp) ?_
        refine AllReadyH.cons (o := ({ dst := some 81, op := Op.call { callee := Callee.value (Operand.func 22), args := #[Operand.const (Value.int IntKind.i64 1)], argTypes := #[2] }, type := 28, pos := "law.go:92", after := #[{ on := 17, ground := Ground.chain }, { on := 17, ground := Ground.guard }], guard := some (17, true) } : Oper)) rfl (fun K hK => ?_) AllReadyH.nil
        go_simp
        with_reducible refine (ZOf_any 1 (by omega) (by omega)).mono ?_
        rintro e v12 ⟨A5, n5, c5, rfl, za, hb1⟩
        replace x_x := x_x.keep hb1
        replace x_y := x_y.keep hb1
        replace x_z := x_z.keep hb1
        replace x_s := x_s.keep hb1
        replace hT := hT.keep hb1
        replace z_x := z_x.keep hb1
        replace z_y := z_y.keep hb1
        replace z_z := z_z.keep hb1
        replace z_s := z_s.keep hb1
        replace hb := bthen hb hb1
        clear hb1
        replace q_x0 := x_x.c0; replace q_x1 := x_x.c1; replace f_x0 := x_x.fr 0; replace f_x1 := x_x.fr 1; replace q_x2 := x_x.c2; replace f_x2 := x_x.fr 2
        replace q_y0 := x_y.c0; replace q_y1 := x_y.c1; replace f_y0 := x_y.fr 0; replace f_y1 := x_y.fr 1; replace q_y2 := x_y.c2; replace f_y2 := x_y.fr 2
        replace q_z0 := x_z.c0; replace q_z1 := x_z.c1; replace f_z0 := x_z.fr 0; replace f_z1 := x_z.fr 1; replace q_z2 := x_z.c2; replace f_z2 := x_z.fr 2
        replace q_s0 := x_s.c0; replace q_s1 := x_s.c1; replace f_s0 := x_s.fr 0; replace f_s1 := x_s.fr 1; replace q_s2 := x_s.c2; replace f_s2 := x_s.fr 2
        (try go_wp2_with fail)
        refine hK.out _ _ (by exact ⟨x_x.c0, x_x.c1, x_x.c2, x_y.c0, x_y.c1, x_y.c2, x_s.c0, x_s.c1, x_s.c2⟩) (fun hHeld => ?_)
        clear hK K
        (try simp only [Act.put, List.setIfInBounds_toArray, List.set_cons_zero, List.set_cons_succ])
        refine wpAnyH_ready (rs := [22]) (by kernel_rfl) (by simp) ?_
        refine AllReadyH.cons (o := ({ dst := some 84, op := Op.call { callee := Callee.value (Operand.func 21), args := #[Operand.tmp 81, Operand.tmp 83], argTypes := #[28, 3] }, type := 30, pos := "law.go:92", after := #[{ on := 19, ground := Ground.data }, { on := 21, ground := Ground.data }, { on := 19, ground := Ground.chain }, { on := 17, ground := Ground.guard }], guard := some (17, true) } : Oper)) rfl (fun K hK => ?_) AllReadyH.nil
        go_simp
        with_reducible refine (DOf_any za.zr hT 2 (by omega) (by omega)).mono ?_
        rintro e v13 ⟨A6, n6, c6, rfl, zb, hb1⟩
        replace x_x := x_x.keep hb1
        replace x_y := x_y.keep hb1
        replace x_z := x_z.keep hb1
        replace x_s := x_s.keep hb1
        replace hT := hT.keep hb1
        replace z_x := z_x.keep hb1
        replace z_y := z_y.keep hb1
        replace z_z := z_z.keep hb1
        replace z_s := z_s.keep hb1
        replace za := za.keep hb1
        replace hb := bthen hb hb1
        clear hb1
        replace q_x0 := x_x.c0; replace q_x1 := x_x.c1; replace f_x0 := x_x.fr 0; replace f_x1 := x_x.fr 1; replace q_x2 := x_x.c2; replace f_x2 := x_x.fr 2
        replace q_y0 := x_y.c0; replace q_y1 := x_y.c1; replace f_y0 := x_y.fr 0; replace f_y1 := x_y.fr 1; replace q_y2 := x_y.c2; replace f_y2 := x_y.fr 2
        replace q_z0 := x_z.c0; replace q_z1 := x_z.c1; replace f_z0 := x_z.fr 0; replace f_z1 := x_z.fr 1; replace q_z2 := x_z.c2; replace f_z2 := x_z.fr 2
        replace q_s0 := x_s.c0; replace q_s1 := x_s.c1; replace f_s0 := x_s.fr 0; replace f_s1 := x_s.fr 1; replace q_s2 := x_s.c2; replace f_s2 := x_s.fr 2
        rw [HOF.out.1] at zb
        rw [HOF.out.1, HOF.out.2]
        (try go_wp2_with fail)
        refine hK.out _ _ (by exact ⟨x_x.c0, x_x.c1, x_x.c2, x_y.c0, x_y.c1, x_y.c2, x_s.c0, x_s.c1, x_s.c2⟩) (fun hHeld => ?_)
        clear hK K
        (try simp only [Act.put, List.setIfInBounds_toArray, List.set_cons_zero, List.set_cons_succ])
        refine wpAnyH_ready (rs := [23]) (by kernel_rfl) (by simp) ?_
        refine AllReadyH.cons (o := ({ dst := some 85, op := Op.call { callee := Callee.value (Operand.func 20), args := #[Operand.tmp 80, Operand.tmp 84], argTypes := #[30, 30] }, type := 3, pos := "law.go:92", after := #[{ on := 18, ground := Ground.data }, { on := 22, ground := Ground.data }, { on := 22, ground := Ground.chain }, { on := 17, ground := Ground.guard }], guard := some (17, true) } : Oper)) rfl (fun K hK => ?_) AllReadyH.nil
        go_simp
        with_reducible refine (DCmp_any z_s.zr zb.zr (by omega) (by omega)).mono ?_
        rintro e v14 ⟨rfl, hb1⟩
        replace x_x := x_x.keep hb1
        replace x_y := x_y.keep hb1
        replace x_z := x_z.keep hb1
        replace x_s := x_s.keep hb1
        replace hT := hT.keep hb1
        replace z_x := z_x.keep hb1
        replace z_y := z_y.keep hb1
        replace z_z := z_z.keep hb1
        replace z_s := z_s.keep hb1
        replace za := za.keep hb1
        replace zb := zb.keep hb1
        replace hb := bthen hb hb1
        clear hb1
        replace q_x0 := x_x.c0; replace q_x1 := x_x.c1; replace f_x0 := x_x.fr 0; replace f_x1 := x_x.fr 1; replace q_x2 := x_x.c2; replace f_x2 := x_x.fr 2
        replace q_y0 := x_y.c0; replace q_y1 := x_y.c1; replace f_y0 := x_y.fr 0; replace f_y1 := x_y.fr 1; replace q_y2 := x_y.c2; replace f_y2 := x_y.fr 2
        replace q_z0 := x_z.c0; replace q_z1 := x_z.c1; replace f_z0 := x_z.fr 0; replace f_z1 := x_z.fr 1; replace q_z2 := x_z.c2; replace f_z2 := x_z.fr 2
        replace q_s0 := x_s.c0; replace q_s1 := x_s.c1; replace f_s0 := x_s.fr 0; replace f_s1 := x_s.fr 1; replace q_s2 := x_s.c2; replace f_s2 := x_s.fr 2
        rw [HC0.out]
        (try go_wp2_with fail)
        refine hK.out _ _ (by exact ⟨x_x.c0, x_x.c1, x_x.c2, x_y.c0, x_y.c1, x_y.c2, x_s.c0, x_s.c1, x_s.c2⟩) (fun hHeld => ?_)
        clear hK K
        (try simp only [Act.put, List.setIfInBounds_toArray, List.set_cons_zero, List.set_cons_succ])
        refine wpAnyH_take (i := 24) (oi := ({ dst := some 86, op := Op.binOp BinOp.eql 3 (Operand.tmp 85) (Operand.const (Value.int IntKind.i64 0)) 3, type := 4, pos := "law.go:92", after := #[{ on := 23, ground := Ground.data }, { on := 17, ground := Ground.guard }], guard := some (17, true) } : Oper)) (v := ?_) rfl (by kernel_rfl) (by kernel_rfl) (by kernel_rfl) (fun _ _ _ h => h) (Or.inl ⟨by rfl, ?_⟩) (by assumption) ?_
        rotate_left
        · (intro w9 hSw; (try dsimp only at hSw); go_simp; all_goals with_reducible rfl)
        (try simp only [Act.put, List.setIfInBounds_toArray, List.set_cons_zero, List.set_cons_succ])
        refine wpAnyH_take (i := 25) (oi := ({ dst := some 87, op := Op.pick (Operand.tmp 79) (Operand.tmp 86) (Operand.const (Value.bool false)), type := 4, pos := "law.go:92", after := #[{ on := 17, ground := Ground.data }, { on := 24, ground := Ground.data }, { on := 14, ground := Ground.guard }], guard := some (14, false) } : Oper)) (v := ?_) rfl (by kernel_rfl) (by kernel_rfl) (by kernel_rfl) (fun _ _ _ h => h) (Or.inl ⟨by rfl, ?_⟩) (by assumption) ?_
        rotate_left
        · (intro w9 hSw; (try dsimp only at hSw); go_simp; all_goals with_reducible rfl)
        (try simp only [Act.put, List.setIfInBounds_toArray, List.set_cons_zero, List.set_cons_succ])
        refine wpAnyH_take (i := 26) (oi := ({ dst := some 88, op := Op.pick (Operand.tmp 76) (Operand.const (Value.bool true)) (Operand.tmp 87), type := 4, pos := "law.go:92", after := #[{ on := 14, ground := Ground.data }, { on := 25, ground := Ground.data }, { on := 8, ground := Ground.guard }], guard := some (8, true) } : Oper)) (v := ?_) rfl (by kernel_rfl) (by kernel_rfl) (by kernel_rfl) (fun _ _ _ h => h) (Or.inl ⟨by rfl, ?_⟩) (by assumption) ?_
        rotate_left
        · (intro w9 hSw; (try dsimp only at hSw); go_simp; all_goals with_reducible rfl)
        (try simp only [Act.put, List.setIfInBounds_toArray, List.set_cons_zero, List.set_cons_succ])
        refine wpAnyH_take (i := 27) (oi := ({ dst := some 89, op := Op.pick (Operand.tmp 70) (Operand.tmp 88) (Operand.const (Value.bool false)), type := 4, pos := "law.go:92", after := #[{ on := 8, ground := Ground.data }, { on := 26, ground := Ground.data }], guard := none } : Oper)) (v := ?_) rfl (by kernel_rfl) (by kernel_rfl) (by kernel_rfl) (fun _ _ _ h => h) (Or.inl ⟨by rfl, ?_⟩) (by assumption) ?_
        rotate_left
        · (intro w9 hSw; (try dsimp only at hSw); go_simp; all_goals with_reducible rfl)
        (try simp only [Act.put, List.setIfInBounds_toArray, List.set_cons_zero, List.set_cons_succ])
        refine wpAnyH_take (i := 28) (oi := ({ dst := some 4, op := Op.assign (Operand.tmp 89), type := 4, pos := "law.go:92", after := #[{ on := 27, ground := Ground.data }, { on := 23, ground := Ground.chain }, { on := 0, ground := Ground.phase }, { on := 1, ground := Ground.phase }, { on := 2, ground := Ground.phase }, { on := 3, ground := Ground.phase }, { on := 4, ground := Ground.phase }, { on := 5, ground := Ground.phase }, { on := 6, ground := Ground.phase }, { on := 7, ground := Ground.phase }, { on := 8, ground := Ground.phase }, { on := 9, ground := Ground.phase }, { on := 10, ground := Ground.phase }, { on := 11, ground := Ground.phase }, { on := 12, ground := Ground.phase }, { on := 13, ground := Ground.phase }, { on := 14, ground := Ground.phase }, { on := 15, ground := Ground.phase }, { on := 16, ground := Ground.phase }, { on := 17, ground := Ground.phase }, { on := 18, ground := Ground.phase }, { on := 19, ground := Ground.phase }, { on := 20, ground := Ground.phase }, { on := 21, ground := Ground.phase }, { on := 22, ground := Ground.phase }, { on := 23, ground := Ground.phase }, { on := 24, ground := Ground.phase }, { on := 25, ground := Ground.phase }, { on := 26, ground := Ground.phase }, { on := 27, ground := Ground.phase }], guard := none } : Oper)) (v := ?_) rfl (by kernel_rfl) (by kernel_rfl) (by kernel_rfl) (fun _ _ _ h => h) (Or.inl ⟨by rfl, ?_⟩) (by assumption) ?_
        rotate_left
        · (intro w9 hSw; (try dsimp only at hSw); go_simp; all_goals with_reducible rfl)
        (try simp only [Act.put, List.setIfInBounds_toArray, List.set_cons_zero, List.set_cons_succ])
        refine wpAnyH_done (by kernel_rfl) ?_ _
        go_wp2
        go_ret
        exact ⟨rfl, hb⟩
    · have hwn : IntKind.i64.wrap ((fdN a : Int) - 1023 - 52) = exN a := by rw [← hex.1 hn]; exact wrap_in (by omega) (by omega)
      have HN := Lib.hid hn; clear hn hex
      rcases Nat.lt_trichotomy a b with hl | hl | hl
      · have hg := hcm.1 hl
        have HG := Lib.hid hg; clear hg hcm
        have hb := Below.refl w.heap.size w
        go_enter Tryd.func5, Tryd.ntmps5
        go_wp2_with fail
        with_reducible refine (Bshown_any hT).mono ?_
        rintro e v1 ⟨rfl, hb1⟩
        replace hT := hT.keep hb1
        replace hb := bthen hb hb1
        clear hb1
        go_wp2_with fail
        with_reducible refine (Value_any _ a rfl HL.out.1 hT HF.out.1).mono ?_
        rintro e v2 ⟨A1, n1, c1, rfl, z_x, hb1⟩
        replace hT := hT.keep hb1
        replace hb := bthen hb hb1
        clear hb1
        rw [HQ.out.1] at z_x
        rw [HQ.out.1, HQ.out.2]
        go_wp2_with fail
        have hb1 := below_alloc v2 (.cells #[.bool (ngB Q), .slice A1 n1 c1, .int .i64 E] 30)
        have x_x := Dx.new v2 (ngB Q) A1 n1 c1 E
        have e_x : w.heap.size ≤ v2.heap.size := hb.size
        replace hT := hT.keep hb1
        replace z_x := z_x.keep hb1
        replace hb := bthen hb hb1
        clear hb1
        generalize v2.alloc (.cells #[.bool (ngB Q), .slice A1 n1 c1, .int .i64 E] 30) = v3 at *
        have q_x0 := x_x.c0; have q_x1 := x_x.c1; have f_x0 := x_x.fr 0; have f_x1 := x_x.fr 1; have q_x2 := x_x.c2; have f_x2 := x_x.fr 2
        skip
        with_reducible refine (Value_any _ b rfl HL.out.2 hT HF.out.2).mono ?_
        rintro e v4 ⟨A2, n2, c2, rfl, z_y, hb1⟩
        replace x_x := x_x.keep hb1
        replace hT := hT.keep hb1
        replace z_x := z_x.keep hb1
        replace hb := bthen hb hb1
        clear hb1
        replace q_x0 := x_x.c0; replace q_x1 := x_x.c1; replace f_x0 := x_x.fr 0; replace f_x1 := x_x.fr 1; replace q_x2 := x_x.c2; replace f_x2 := x_x.fr 2
        rw [HR.out.1] at z_y
        rw [HR.out.1, HR.out.2]
        have y_x := (x_x.alloc (.cells #[.bool (ngB R), .slice A2 n2 c2, .int .i64 F] 30)); have yq_x0 := y_x.c0; have yq_x1 := y_x.c1; have yq_x2 := y_x.c2
        go_wp2_with fail
        clear y_x yq_x0 yq_x1 yq_x2
        have hb1 := below_alloc v4 (.cells #[.bool (ngB R), .slice A2 n2 c2, .int .i64 F] 30)
        have l_x_y := x_x.lt
        have x_y := Dx.new v4 (ngB R) A2 n2 c2 F
        have e_y : w.heap.size ≤ v4.heap.size := hb.size
        replace x_x := x_x.keep hb1
        replace hT := hT.keep hb1
        replace z_x := z_x.keep hb1
        replace z_y := z_y.keep hb1
        replace hb := bthen hb hb1
        clear hb1
        replace q_x0 := x_x.c0; replace q_x1 := x_x.c1; replace f_x0 := x_x.fr 0; replace f_x1 := x_x.fr 1; replace q_x2 := x_x.c2; replace f_x2 := x_x.fr 2
        clear q_x0 q_x1 f_x0 f_x1 q_x2 f_x2
        generalize v4.alloc (.cells #[.bool (ngB R), .slice A2 n2 c2, .int .i64 F] 30) = v5 at *
        have q_x0 := x_x.c0; have q_x1 := x_x.c1; have f_x0 := x_x.fr 0; have f_x1 := x_x.fr 1; have q_x2 := x_x.c2; have f_x2 := x_x.fr 2
        have q_y0 := x_y.c0; have q_y1 := x_y.c1; have f_y0 := x_y.fr 0; have f_y1 := x_y.fr 1; have q_y2 := x_y.c2; have f_y2 := x_y.fr 2
        skip
        with_reducible refine (Binade_yes _ a rfl HL.out.1 HN.out).mono ?_
        rintro e v6 ⟨rfl, hb1⟩
        replace x_x := x_x.keep hb1
        replace x_y := x_y.keep hb1
        replace hT := hT.keep hb1
        replace z_x := z_x.keep hb1
        replace z_y := z_y.keep hb1
        replace hb := bthen hb hb1
        clear hb1
        replace q_x0 := x_x.c0; replace q_x1 := x_x.c1; replace f_x0 := x_x.fr 0; replace f_x1 := x_x.fr 1; replace q_x2 := x_x.c2; replace f_x2 := x_x.fr 2
        replace q_y0 := x_y.c0; replace q_y1 := x_y.c1; replace f_y0 := x_y.fr 0; replace f_y1 := x_y.fr 1; replace q_y2 := x_y.c2; replace f_y2 := x_y.fr 2
        go_wp2_with fail
        with_reducible refine (Value_any _ z1 rfl HK.out.2 hT HK.out.1).mono ?_
        rintro e v7 ⟨A3, n3, c3, rfl, z_z, hb1⟩
        replace x_x := x_x.keep hb1
        replace x_y := x_y.keep hb1
        replace hT := hT.keep hb1
        replace z_x := z_x.keep hb1
        replace z_y := z_y.keep hb1
        replace hb := bthen hb hb1
        clear hb1
        replace q_x0 := x_x.c0; replace q_x1 := x_x.c1; replace f_x0 := x_x.fr 0; replace f_x1 := x_x.fr 1; replace q_x2 := x_x.c2; replace f_x2 := x_x.fr 2
        replace q_y0 := x_y.c0; replace q_y1 := x_y.c1; replace f_y0 := x_y.fr 0; replace f_y1 := x_y.fr 1; replace q_y2 := x_y.c2; replace f_y2 := x_y.fr 2
        rw [HU.out.1] at z_z
        rw [HU.out.1, HU.out.2]
        have y_x := (x_x.alloc (.cells #[.bool (ngB U), .slice A3 n3 c3, .int .i64 G] 30)); have yq_x0 := y_x.c0; have yq_x1 := y_x.c1; have yq_x2 := y_x.c2
        have y_y := (x_y.alloc (.cells #[.bool (ngB U), .slice A3 n3 c3, .int .i64 G] 30)); have yq_y0 := y_y.c0; have yq_y1 := y_y.c1; have yq_y2 := y_y.c2
        go_wp2_with fail
        clear y_x yq_x0 yq_x1 yq_x2 y_y yq_y0 yq_y1 yq_y2
        have hb1 := below_alloc v7 (.cells #[.bool (ngB U), .slice A3 n3 c3, .int .i64 G] 30)
        have l_x_z := x_x.lt
        have l_y_z := x_y.lt
        have x_z := Dx.new v7 (ngB U) A3 n3 c3 G
        have e_z : w.heap.size ≤ v7.heap.size := hb.size
        replace x_x := x_x.keep hb1
        replace x_y := x_y.keep hb1
        replace hT := hT.keep hb1
        replace z_x := z_x.keep hb1
        replace z_y := z_y.keep hb1
        replace z_z := z_z.keep hb1
        replace hb := bthen hb hb1
        clear hb1
        replace q_x0 := x_x.c0; replace q_x1 := x_x.c1; replace f_x0 := x_x.fr 0; replace f_x1 := x_x.fr 1; replace q_x2 := x_x.c2; replace f_x2 := x_x.fr 2
        replace q_y0 := x_y.c0; replace q_y1 := x_y.c1; replace f_y0 := x_y.fr 0; replace f_y1 := x_y.fr 1; replace q_y2 := x_y.c2; replace f_y2 := x_y.fr 2
        clear q_x0 q_x1 f_x0 f_x1 q_x2 f_x2 q_y0 q_y1 f_y0 f_y1 q_y2 f_y2
        generalize v7.alloc (.cells #[.bool (ngB U), .slice A3 n3 c3, .int .i64 G] 30) = v8 at *
        have q_x0 := x_x.c0; have q_x1 := x_x.c1; have f_x0 := x_x.fr 0; have f_x1 := x_x.fr 1; have q_x2 := x_x.c2; have f_x2 := x_x.fr 2
        have q_y0 := x_y.c0; have q_y1 := x_y.c1; have f_y0 := x_y.fr 0; have f_y1 := x_y.fr 1; have q_y2 := x_y.c2; have f_y2 := x_y.fr 2
        have q_z0 := x_z.c0; have q_z1 := x_z.c1; have f_z0 := x_z.fr 0; have f_z1 := x_z.fr 1; have q_z2 := x_z.c2; have f_z2 := x_z.fr 2
        skip
        with_reducible refine (DSub_any z_z.zr z_x.zr hT 200 (by omega) (by omega) (by omega)).mono ?_
        rintro e v9 ⟨A4, n4, c4, rfl, z_s, hb1⟩
        replace x_x := x_x.keep hb1
        replace x_y := x_y.keep hb1
        replace x_z := x_z.keep hb1
        replace hT := hT.keep hb1
        replace z_x := z_x.keep hb1
        replace z_y := z_y.keep hb1
        replace z_z := z_z.keep hb1
        replace hb := bthen hb hb1
        clear hb1
        replace q_x0 := x_x.c0; replace q_x1 := x_x.c1; replace f_x0 := x_x.fr 0; replace f_x1 := x_x.fr 1; replace q_x2 := x_x.c2; replace f_x2 := x_x.fr 2
        replace q_y0 := x_y.c0; replace q_y1 := x_y.c1; replace f_y0 := x_y.fr 0; replace f_y1 := x_y.fr 1; replace q_y2 := x_y.c2; replace f_y2 := x_y.fr 2
        replace q_z0 := x_z.c0; replace q_z1 := x_z.c1; replace f_z0 := x_z.fr 0; replace f_z1 := x_z.fr 1; replace q_z2 := x_z.c2; replace f_z2 := x_z.fr 2
        rw [HST.out.1] at z_s
        rw [HST.out.1, HST.out.2]
        have y_x := (x_x.alloc (.cells #[.bool (ngB 1), .slice A4 n4 c4, .int .i64 (exN a)] 30)); have yq_x0 := y_x.c0; have yq_x1 := y_x.c1; have yq_x2 := y_x.c2
        have y_y := (x_y.alloc (.cells #[.bool (ngB 1), .slice A4 n4 c4, .int .i64 (exN a)] 30)); have yq_y0 := y_y.c0; have yq_y1 := y_y.c1; have yq_y2 := y_y.c2
        have y_z := (x_z.alloc (.cells #[.bool (ngB 1), .slice A4 n4 c4, .int .i64 (exN a)] 30)); have yq_z0 := y_z.c0; have yq_z1 := y_z.c1; have yq_z2 := y_z.c2
        go_wp2_with fail
        clear y_x yq_x0 yq_x1 yq_x2 y_y yq_y0 yq_y1 yq_y2 y_z yq_z0 yq_z1 yq_z2
        have hb1 := below_alloc v9 (.cells #[.bool (ngB 1), .slice A4 n4 c4, .int .i64 (exN a)] 30)
        have l_x_s := x_x.lt
        have l_y_s := x_y.lt
        have l_z_s := x_z.lt
        have x_s := Dx.new v9 (ngB 1) A4 n4 c4 (exN a)
        have e_s : w.heap.size ≤ v9.heap.size := hb.size
        replace x_x := x_x.keep hb1
        replace x_y := x_y.keep hb1
        replace x_z := x_z.keep hb1
        replace hT := hT.keep hb1
        replace z_x := z_x.keep hb1
        replace z_y := z_y.keep hb1
        replace z_z := z_z.keep hb1
        replace z_s := z_s.keep hb1
        replace hb := bthen hb hb1
        clear hb1
        replace q_x0 := x_x.c0; replace q_x1 := x_x.c1; replace f_x0 := x_x.fr 0; replace f_x1 := x_x.fr 1; replace q_x2 := x_x.c2; replace f_x2 := x_x.fr 2
        replace q_y0 := x_y.c0; replace q_y1 := x_y.c1; replace f_y0 := x_y.fr 0; replace f_y1 := x_y.fr 1; replace q_y2 := x_y.c2; replace f_y2 := x_y.fr 2
        replace q_z0 := x_z.c0; replace q_z1 := x_z.c1; replace f_z0 := x_z.fr 0; replace f_z1 := x_z.fr 1; replace q_z2 := x_z.c2; replace f_z2 := x_z.fr 2
        clear q_x0 q_x1 f_x0 f_x1 q_x2 f_x2 q_y0 q_y1 f_y0 f_y1 q_y2 f_y2 q_z0 q_z1 f_z0 f_z1 q_z2 f_z2
        generalize v9.alloc (.cells #[.bool (ngB 1), .slice A4 n4 c4, .int .i64 (exN a)] 30) = v10 at *
        have q_x0 := x_x.c0; have q_x1 := x_x.c1; have f_x0 := x_x.fr 0; have f_x1 := x_x.fr 1; have q_x2 := x_x.c2; have f_x2 := x_x.fr 2
        have q_y0 := x_y.c0; have q_y1 := x_y.c1; have f_y0 := x_y.fr 0; have f_y1 := x_y.fr 1; have q_y2 := x_y.c2; have f_y2 := x_y.fr 2
        have q_z0 := x_z.c0; have q_z1 := x_z.c1; have f_z0 := x_z.fr 0; have f_z1 := x_z.fr 1; have q_z2 := x_z.c2; have f_z2 := x_z.fr 2
        have q_s0 := x_s.c0; have q_s1 := x_s.c1; have f_s0 := x_s.fr 0; have f_s1 := x_s.fr 1; have q_s2 := x_s.c2; have f_s2 := x_s.fr 2
        refine wp_region_held_drew (S := fun w' => w'.cell? ⟨v2.heap.size, 0, none⟩ = some (.bool (ngB Q)) ∧ w'.cell? ⟨v2.heap.size, 1, none⟩ = some (.slice A1 n1 c1) ∧ w'.cell? ⟨v2.heap.size, 2, none⟩ = some (.int .i64 E) ∧ w'.cell? ⟨v4.heap.size, 0, none⟩ = some (.bool (ngB R)) ∧ w'.cell? ⟨v4.heap.size, 1, none⟩ = some (.slice A2 n2 c2) ∧ w'.cell? ⟨v4.heap.size, 2, none⟩ = some (.int .i64 F) ∧ w'.cell? ⟨v9.heap.size, 0, none⟩ = some (.bool (ngB 1)) ∧ w'.cell? ⟨v9.heap.size, 1, none⟩ = some (.slice A4 n4 c4) ∧ w'.cell? ⟨v9.heap.size, 2, none⟩ = some (.int .i64 (exN a))) (by kernel_rfl) (by exact ⟨x_x.c0, x_x.c1, x_x.c2, x_y.c0, x_y.c1, x_y.c2, x_s.c0, x_s.c1, x_s.c2⟩) (fun hHeld => ?_)
        refine wpAnyH_take (i := 0) (oi := ({ dst := some 62, op := Op.move (Operand.tmp 5), type := 4, pos := "law.go:92", after := #[], guard := none } : Oper)) (v := ?_) rfl (by kernel_rfl) (by kernel_rfl) (by kernel_rfl) (fun _ _ _ h => h) (Or.inl ⟨by rfl, ?_⟩) (by assumption) ?_
        rotate_left
        · (intro w9 hSw; (try dsimp only at hSw); go_simp; all_goals with_reducible rfl)
        (try simp only [Act.put, List.setIfInBounds_toArray, List.set_cons_zero, List.set_cons_succ])
        refine wpAnyH_take (i := 1) (oi := ({ dst := some 63, op := Op.move (Operand.tmp 62), type := 4, pos := "law.go:92", after := #[{ on := 0, ground := Ground.data }], guard := none } : Oper)) (v := ?_) rfl (by kernel_rfl) (by kernel_rfl) (by kernel_rfl) (fun _ _ _ h => h) (Or.inl ⟨by rfl, ?_⟩) (by assumption) ?_
        rotate_left
        · (intro w9 hSw; (try dsimp only at hSw); go_simp; all_goals with_reducible rfl)
        (try simp only [Act.put, List.setIfInBounds_toArray, List.set_cons_zero, List.set_cons_succ])
        refine wpAnyH_take (i := 2) (oi := ({ dst := some 64, op := Op.load 30 (Operand.tmp 6), type := 30, pos := "law.go:92", after := #[{ on := 1, ground := Ground.guard }], guard := some (1, true) } : Oper)) (v := ?_) rfl (by kernel_rfl) (by kernel_rfl) (by kernel_rfl) (fun _ _ _ h => h) (Or.inl ⟨by rfl, ?_⟩) (by assumption) ?_
        rotate_left
        · (intro w9 hSw; (try dsimp only at hSw); go_simp; all_goals with_reducible rfl)
        (try simp only [Act.put, List.setIfInBounds_toArray, List.set_cons_zero, List.set_cons_succ])
        refine wpAnyH_take (i := 3) (oi := ({ dst := some 65, op := Op.load 30 (Operand.tmp 8), type := 30, pos := "law.go:92", after := #[{ on := 1, ground := Ground.guard }], guard := some (1, true) } : Oper)) (v := ?_) rfl (by kernel_rfl) (by kernel_rfl) (by kernel_rfl) (fun _ _ _ h => h) (Or.inl ⟨by rfl, ?_⟩) (by assumption) ?_
        rotate_left
        · (intro w9 hSw; (try dsimp only at hSw); go_simp; all_goals with_reducible rfl)
        (try simp only [Act.put, List.setIfInBounds_toArray, List.set_cons_zero, List.set_cons_succ])
        refine wpAnyH_take (i := 5) (oi := ({ dst := some 67, op := Op.move (Operand.tmp 10), type := 3, pos := "law.go:92", after := #[{ on := 1, ground := Ground.guard }], guard := some (1, true) } : Oper)) (v := ?_) rfl (by kernel_rfl) (by kernel_rfl) (by kernel_rfl) (fun _ _ _ h => h) (Or.inl ⟨by rfl, ?_⟩) (by assumption) ?_
        rotate_left
        · (intro w9 hSw; (try dsimp only at hSw); go_simp; all_goals with_reducible rfl)
        (try simp only [Act.put, List.setIfInBounds_toArray, List.set_cons_zero, List.set_cons_succ])
        refine wpAnyH_ready (rs := [4]) (by kernel_rfl) (by simp) ?_
        refine AllReadyH.cons (o := ({ dst := some 66, op := Op.call { callee := Callee.value (Operand.func 20), args := #[Operand.tmp 64, Operand.tmp 65], argTypes := #[30, 30] }, type := 3, pos := "law.go:92", after := #[{ on := 2, ground := Ground.data }, { on := 3, ground := Ground.data }, { on := 1, ground := Ground.chain }, { on := 1, ground := Ground.guard }], guard := some (1, true) } : Oper)) rfl (fun K hK => ?_) AllReadyH.nil
        go_simp
        with_reducible refine (DCmp_any z_x.zr.drw z_y.zr.drw (by omega) (by omega)).mono ?_
        rintro e v11 ⟨rfl, hb1⟩
        replace hb1 := undrew hb1
        replace x_x := x_x.keep hb1
        replace x_y := x_y.keep hb1
        replace x_z := x_z.keep hb1
        replace x_s := x_s.keep hb1
        replace hT := hT.keep hb1
        replace z_x := z_x.keep hb1
        replace z_y := z_y.keep hb1
        replace z_z := z_z.keep hb1
        replace z_s := z_s.keep hb1
        replace hb := bthen hb hb1
        clear hb1
        replace q_x0 := x_x.c0; replace q_x1 := x_x.c1; replace f_x0 := x_x.fr 0; replace f_x1 := x_x.fr 1; replace q_x2 := x_x.c2; replace f_x2 := x_x.fr 2
        replace q_y0 := x_y.c0; replace q_y1 := x_y.c1; replace f_y0 := x_y.fr 0; replace f_y1 := x_y.fr 1; replace q_y2 := x_y.c2; replace f_y2 := x_y.fr 2
        replace q_z0 := x_z.c0; replace q_z1 := x_z.c1; replace f_z0 := x_z.fr 0; replace f_z1 := x_z.fr 1; replace q_z2 := x_z.c2; replace f_z2 := x_z.fr 2
        replace q_s0 := x_s.c0; replace q_s1 := x_s.c1; replace f_s0 := x_s.fr 0; replace f_s1 := x_s.fr 1; replace q_s2 := x_s.c2; replace f_s2 := x_s.fr 2
        rw [HC.out, HG.out]
        (try go_wp2_with fail)
        refine hK.out _ _ (by exact ⟨x_x.c0, x_x.c1, x_x.c2, x_y.c0, x_y.c1, x_y.c2, x_s.c0, x_s.c1, x_s.c2⟩) (fun hHeld => ?_)
        clear hK K
        (try simp only [Act.put, List.setIfInBounds_toArray, List.set_cons_zero, List.set_cons_succ])
        refine wpAnyH_take (i := 6) (oi := ({ dst := some 68, op := Op.binOp BinOp.eql 3 (Operand.tmp 66) (Operand.tmp 67) 3, type := 4, pos := "law.go:92", after := #[{ on := 4, ground := Ground.data }, { on := 5, ground := Ground.data }, { on := 1, ground := Ground.guard }], guard := some (1, true) } : Oper)) (v := ?_) rfl (by kernel_rfl) (by kernel_rfl) (by kernel_rfl) (fun _ _ _ h => h) (Or.inl ⟨by rfl, ?_⟩) (by assumption) ?_
        rotate_left
        · (intro w9 hSw; (try dsimp only at hSw); go_simp; all_goals with_reducible rfl)
        (try simp only [Act.put, List.setIfInBounds_toArray, List.set_cons_zero, List.set_cons_succ])
        refine wpAnyH_take (i := 7) (oi := ({ dst := some 69, op := Op.pick (Operand.tmp 63) (Operand.tmp 68) (Operand.const (Value.bool false)), type := 4, pos := "law.go:92", after := #[{ on := 1, ground := Ground.data }, { on := 6, ground := Ground.data }], guard := none } : Oper)) (v := ?_) rfl (by kernel_rfl) (by kernel_rfl) (by kernel_rfl) (fun _ _ _ h => h) (Or.inl ⟨by rfl, ?_⟩) (by assumption) ?_
        rotate_left
        · (intro w9 hSw; (try dsimp only at hSw); go_simp; all_goals with_reducible rfl)
        (try simp only [Act.put, List.setIfInBounds_toArray, List.set_cons_zero, List.set_cons_succ])
        refine wpAnyH_take (i := 8) (oi := ({ dst := some 70, op := Op.move (Operand.tmp 69), type := 4, pos := "law.go:92", after := #[{ on := 7, ground := Ground.data }, { on := 4, ground := Ground.chain }], guard := none } : Oper)) (v := ?_) rfl (by kernel_rfl) (by kernel_rfl) (by kernel_rfl) (fun _ _ _ h => h) (Or.inl ⟨by rfl, ?_⟩) (by assumption) ?_
        rotate_left
        · (intro w9 hSw; (try dsimp only at hSw); go_simp; all_goals with_reducible rfl)
        (try simp only [Act.put, List.setIfInBounds_toArray, List.set_cons_zero, List.set_cons_succ])
        refine wpAnyH_take (i := 9) (oi := ({ dst := some 71, op := Op.move (Operand.tmp 16), type := 4, pos := "law.go:92", after := #[{ on := 8, ground := Ground.guard }], guard := some (8, true) } : Oper)) (v := ?_) rfl (by kernel_rfl) (by kernel_rfl) (by kernel_rfl) (fun _ _ _ h => h) (Or.inl ⟨by rfl, ?_⟩) (by assumption) ?_
        rotate_left
        · (intro w9 hSw; (try dsimp only at hSw); go_simp; all_goals with_reducible rfl)
        (try simp only [Act.put, List.setIfInBounds_toArray, List.set_cons_zero, List.set_cons_succ])
        refine wpAnyH_take (i := 10) (oi := ({ dst := some 72, op := Op.move (Operand.tmp 71), type := 4, pos := "law.go:92", after := #[{ on := 9, ground := Ground.data }, { on := 8, ground := Ground.chain }, { on := 8, ground := Ground.guard }], guard := some (8, true) } : Oper)) (v := ?_) rfl (by kernel_rfl) (by kernel_rfl) (by kernel_rfl) (fun _ _ _ h => h) (Or.inl ⟨by rfl, ?_⟩) (by assumption) ?_
        rotate_left
        · (intro w9 hSw; (try dsimp only at hSw); go_simp; all_goals with_reducible rfl)
        (try simp only [Act.put, List.setIfInBounds_toArray, List.set_cons_zero, List.set_cons_succ])
        refine wpAnyH_take (i := 11) (oi := ({ dst := some 73, op := Op.move (Operand.tmp 14), type := 31, pos := "law.go:92", after := #[{ on := 10, ground := Ground.guard }], guard := some (10, true) } : Oper)) (v := undef) rfl (by kernel_rfl) (by kernel_rfl) (by kernel_rfl) (fun _ _ _ h => h) (Or.inr ⟨by rfl, rfl⟩) (by assumption) ?_
        (try simp only [Act.put, List.setIfInBounds_toArray, List.set_cons_zero, List.set_cons_succ])
        refine wpAnyH_take (i := 12) (oi := ({ dst := some 74, op := Op.binOp BinOp.eql 31 (Operand.tmp 73) (Operand.const (Value.int IntKind.i64 1)) 31, type := 4, pos := "law.go:92", after := #[{ on := 11, ground := Ground.data }, { on := 10, ground := Ground.guard }], guard := some (10, true) } : Oper)) (v := undef) rfl (by kernel_rfl) (by kernel_rfl) (by kernel_rfl) (fun _ _ _ h => h) (Or.inr ⟨by rfl, rfl⟩) (by assumption) ?_
        (try simp only [Act.put, List.setIfInBounds_toArray, List.set_cons_zero, List.set_cons_succ])
        refine wpAnyH_take (i := 13) (oi := ({ dst := some 75, op := Op.pick (Operand.tmp 72) (Operand.tmp 74) (Operand.const (Value.bool false)), type := 4, pos := "law.go:92", after := #[{ on := 10, ground := Ground.data }, { on := 12, ground := Ground.data }, { on := 8, ground := Ground.guard }], guard := some (8, true) } : Oper)) (v := ?_) rfl (by kernel_rfl) (by kernel_rfl) (by kernel_rfl) (fun _ _ _ h => h) (Or.inl ⟨by rfl, ?_⟩) (by assumption) ?_
        rotate_left
        · (intro w9 hSw; (try dsimp only at hSw); go_simp; all_goals with_reducible rfl)
        (try simp only [Act.put, List.setIfInBounds_toArray, List.set_cons_zero, List.set_cons_succ])
        refine wpAnyH_take (i := 14) (oi := ({ dst := some 76, op := Op.move (Operand.tmp 75), type := 4, pos := "law.go:92", after := #[{ on := 13, ground := Ground.data }, { on := 10, ground := Ground.chain }, { on := 8, ground := Ground.guard }], guard := some (8, true) } : Oper)) (v := ?_) rfl (by kernel_rfl) (by kernel_rfl) (by kernel_rfl) (fun _ _ _ h => h) (Or.inl ⟨by rfl, ?_⟩) (by assumption) ?_
        rotate_left
        · (intro w9 hSw; (try dsimp only at hSw); go_simp; all_goals with_reducible rfl)
        (try simp only [Act.put, List.setIfInBounds_toArray, List.set_cons_zero, List.set_cons_succ])
        refine wpAnyH_take (i := 15) (oi := ({ dst := some 77, op := Op.move (Operand.tmp 16), type := 4, pos := "law.go:92", after := #[{ on := 14, ground := Ground.guard }], guard := some (14, false) } : Oper)) (v := ?_) rfl (by kernel_rfl) (by kernel_rfl) (by kernel_rfl) (fun _ _ _ h => h) (Or.inl ⟨by rfl, ?_⟩) (by assumption) ?_
        rotate_left
        · (intro w9 hSw; (try dsimp only at hSw); go_simp; all_goals with_reducible rfl)
        (try simp only [Act.put, List.setIfInBounds_toArray, List.set_cons_zero, List.set_cons_succ])
        refine wpAnyH_take (i := 16) (oi := ({ dst := some 78, op := Op.unOp UnOp.not 4 (Operand.tmp 77), type := 4, pos := "law.go:92", after := #[{ on := 15, ground := Ground.data }, { on := 14, ground := Ground.guard }], guard := some (14, false) } : Oper)) (v := ?_) rfl (by kernel_rfl) (by kernel_rfl) (by kernel_rfl) (fun _ _ _ h => h) (Or.inl ⟨by rfl, ?_⟩) (by assumption) ?_
        rotate_left
        · (intro w9 hSw; (try dsimp only at hSw); go_simp; all_goals with_reducible rfl)
        (try simp only [Act.put, List.setIfInBounds_toArray, List.set_cons_zero, List.set_cons_succ])
        refine wpAnyH_take (i := 17) (oi := ({ dst := some 79, op := Op.move (Operand.tmp 78), type := 4, pos := "law.go:92", after := #[{ on := 16, ground := Ground.data }, { on := 14, ground := Ground.chain }, { on := 14, ground := Ground.guard }], guard := some (14, false) } : Oper)) (v := ?_) rfl (by kernel_rfl) (by kernel_rfl) (by kernel_rfl) (fun _ _ _ h => h) (Or.inl ⟨by rfl, ?_⟩) (by assumption) ?_
        rotate_left
        · (intro w9 hSw; (try dsimp only at hSw); go_simp; all_goals with_reducible rfl)
        (try simp only [Act.put, List.setIfInBounds_toArray, List.set_cons_zero, List.set_cons_succ])
        refine wpAnyH_take (i := 18) (oi := ({ dst := some 80, op := Op.load 30 (Operand.tmp 15), type := 30, pos := "law.go:92", after := #[{ on := 17, ground := Ground.guard }], guard := some (17, true) } : Oper)) (v := ?_) rfl (by kernel_rfl) (by kernel_rfl) (by kernel_rfl) (fun _ _ _ h => h) (Or.inl ⟨by rfl, ?_⟩) (by assumption) ?_
        rotate_left
        · (intro w9 hSw; (try dsimp only at hSw); go_simp; all_goals with_reducible rfl)
        (try simp only [Act.put, List.setIfInBounds_toArray, List.set_cons_zero, List.set_cons_succ])
        refine wpAnyH_take (i := 20) (oi := ({ dst := some 82, op := Op.move (Operand.tmp 11), type := 3, pos := "law.go:92", after := #[{ on := 17, ground := Ground.guard }], guard := some (17, true) } : Oper)) (v := ?_) rfl (by kernel_rfl) (by kernel_rfl) (by kernel_rfl) (fun _ _ _ h => h) (Or.inl ⟨by rfl, ?_⟩) (by assumption) ?_
        rotate_left
        · (intro w9 hSw; (try dsimp only at hSw); go_simp; all_goals with_reducible rfl)
        (try simp only [Act.put, List.setIfInBounds_toArray, List.set_cons_zero, List.set_cons_succ])
        refine wpAnyH_take (i := 21) (oi := ({ dst := some 83, op := Op.binOp BinOp.sub 3 (Operand.tmp 82) (Operand.const (Value.int IntKind.i64 52)) 3, type := 3, pos := "law.go:92", after := #[{ on := 20, ground := Ground.data }, { on := 17, ground := Ground.guard }], guard := some (17, true) } : Oper)) (v := ?_) rfl (by kernel_rfl) (by kernel_rfl) (by kernel_rfl) (fun _ _ _ h => h) (Or.inl ⟨by rfl, ?_⟩) (by assumption) ?_
        rotate_left
        · (intro w9 hSw; (try dsimp only at hSw); go_simp; all_goals with_reducible rfl)
        (try simp only [Act.put, List.setIfInBounds_toArray, List.set_cons_zero, List.set_cons_succ])
        refine wpAnyH_ready (rs := [19]) (by kernel_rfl) (by simp) ?_
        refine AllReadyH.cons (o := ({ dst := some 81, op := Op.call { callee := Callee.value (Operand.func 22), args := #[Operand.const (Value.int IntKind.i64 1)], argTypes := #[2] }, type := 28, pos := "law.go:92", after := #[{ on := 17, ground := Ground.chain }, { on := 17, ground := Ground.guard }], guard := some (17, true) } : Oper)) rfl (fun K hK => ?_) AllReadyH.nil
        go_simp
        with_reducible refine (ZOf_any 1 (by omega) (by omega)).mono ?_
        rintro e v12 ⟨A5, n5, c5, rfl, za, hb1⟩
        replace x_x := x_x.keep hb1
        replace x_y := x_y.keep hb1
        replace x_z := x_z.keep hb1
        replace x_s := x_s.keep hb1
        replace hT := hT.keep hb1
        replace z_x := z_x.keep hb1
        replace z_y := z_y.keep hb1
        replace z_z := z_z.keep hb1
        replace z_s := z_s.keep hb1
        replace hb := bthen hb hb1
        clear hb1
        replace q_x0 := x_x.c0; replace q_x1 := x_x.c1; replace f_x0 := x_x.fr 0; replace f_x1 := x_x.fr 1; replace q_x2 := x_x.c2; replace f_x2 := x_x.fr 2
        replace q_y0 := x_y.c0; replace q_y1 := x_y.c1; replace f_y0 := x_y.fr 0; replace f_y1 := x_y.fr 1; replace q_y2 := x_y.c2; replace f_y2 := x_y.fr 2
        replace q_z0 := x_z.c0; replace q_z1 := x_z.c1; replace f_z0 := x_z.fr 0; replace f_z1 := x_z.fr 1; replace q_z2 := x_z.c2; replace f_z2 := x_z.fr 2
        replace q_s0 := x_s.c0; replace q_s1 := x_s.c1; replace f_s0 := x_s.fr 0; replace f_s1 := x_s.fr 1; replace q_s2 := x_s.c2; replace f_s2 := x_s.fr 2
        (try go_wp2_with fail)
        refine hK.out _ _ (by exact ⟨x_x.c0, x_x.c1, x_x.c2, x_y.c0, x_y.c1, x_y.c2, x_s.c0, x_s.c1, x_s.c2⟩) (fun hHeld => ?_)
        clear hK K
        (try simp only [Act.put, List.setIfInBounds_toArray, List.set_cons_zero, List.set_cons_succ])
        refine wpAnyH_ready (rs := [22]) (by kernel_rfl) (by simp) ?_
        refine AllReadyH.cons (o := ({ dst := some 84, op := Op.call { callee := Callee.value (Operand.func 21), args := #[Operand.tmp 81, Operand.tmp 83], argTypes := #[28, 3] }, type := 30, pos := "law.go:92", after := #[{ on := 19, ground := Ground.data }, { on := 21, ground := Ground.data }, { on := 19, ground := Ground.chain }, { on := 17, ground := Ground.guard }], guard := some (17, true) } : Oper)) rfl (fun K hK => ?_) AllReadyH.nil
        go_simp
        with_reducible refine (DOf_any za.zr hT 2 (by omega) (by omega)).mono ?_
        rintro e v13 ⟨A6, n6, c6, rfl, zb, hb1⟩
        replace x_x := x_x.keep hb1
        replace x_y := x_y.keep hb1
        replace x_z := x_z.keep hb1
        replace x_s := x_s.keep hb1
        replace hT := hT.keep hb1
        replace z_x := z_x.keep hb1
        replace z_y := z_y.keep hb1
        replace z_z := z_z.keep hb1
        replace z_s := z_s.keep hb1
        replace za := za.keep hb1
        replace hb := bthen hb hb1
        clear hb1
        replace q_x0 := x_x.c0; replace q_x1 := x_x.c1; replace f_x0 := x_x.fr 0; replace f_x1 := x_x.fr 1; replace q_x2 := x_x.c2; replace f_x2 := x_x.fr 2
        replace q_y0 := x_y.c0; replace q_y1 := x_y.c1; replace f_y0 := x_y.fr 0; replace f_y1 := x_y.fr 1; replace q_y2 := x_y.c2; replace f_y2 := x_y.fr 2
        replace q_z0 := x_z.c0; replace q_z1 := x_z.c1; replace f_z0 := x_z.fr 0; replace f_z1 := x_z.fr 1; replace q_z2 := x_z.c2; replace f_z2 := x_z.fr 2
        replace q_s0 := x_s.c0; replace q_s1 := x_s.c1; replace f_s0 := x_s.fr 0; replace f_s1 := x_s.fr 1; replace q_s2 := x_s.c2; replace f_s2 := x_s.fr 2
        rw [HOF.out.1] at zb
        rw [HOF.out.1, HOF.out.2]
        (try go_wp2_with fail)
        refine hK.out _ _ (by exact ⟨x_x.c0, x_x.c1, x_x.c2, x_y.c0, x_y.c1, x_y.c2, x_s.c0, x_s.c1, x_s.c2⟩) (fun hHeld => ?_)
        clear hK K
        (try simp only [Act.put, List.setIfInBounds_toArray, List.set_cons_zero, List.set_cons_succ])
        refine wpAnyH_ready (rs := [23]) (by kernel_rfl) (by simp) ?_
        refine AllReadyH.cons (o := ({ dst := some 85, op := Op.call { callee := Callee.value (Operand.func 20), args := #[Operand.tmp 80, Operand.tmp 84], argTypes := #[30, 30] }, type := 3, pos := "law.go:92", after := #[{ on := 18, ground := Ground.data }, { on := 22, ground := Ground.data }, { on := 22, ground := Ground.chain }, { on := 17, ground := Ground.guard }], guard := some (17, true) } : Oper)) rfl (fun K hK => ?_) AllReadyH.nil
        go_simp
        with_reducible refine (DCmp_any z_s.zr zb.zr (by omega) (by omega)).mono ?_
        rintro e v14 ⟨rfl, hb1⟩
        replace x_x := x_x.keep hb1
        replace x_y := x_y.keep hb1
        replace x_z := x_z.keep hb1
        replace x_s := x_s.keep hb1
        replace hT := hT.keep hb1
        replace z_x := z_x.keep hb1
        replace z_y := z_y.keep hb1
        replace z_z := z_z.keep hb1
        replace z_s := z_s.keep hb1
        replace za := za.keep hb1
        replace zb := zb.keep hb1
        replace hb := bthen hb hb1
        clear hb1
        replace q_x0 := x_x.c0; replace q_x1 := x_x.c1; replace f_x0 := x_x.fr 0; replace f_x1 := x_x.fr 1; replace q_x2 := x_x.c2; replace f_x2 := x_x.fr 2
        replace q_y0 := x_y.c0; replace q_y1 := x_y.c1; replace f_y0 := x_y.fr 0; replace f_y1 := x_y.fr 1; replace q_y2 := x_y.c2; replace f_y2 := x_y.fr 2
        replace q_z0 := x_z.c0; replace q_z1 := x_z.c1; replace f_z0 := x_z.fr 0; replace f_z1 := x_z.fr 1; replace q_z2 := x_z.c2; replace f_z2 := x_z.fr 2
        replace q_s0 := x_s.c0; replace q_s1 := x_s.c1; replace f_s0 := x_s.fr 0; replace f_s1 := x_s.fr 1; replace q_s2 := x_s.c2; replace f_s2 := x_s.fr 2
        rw [HC0.out]
        (try go_wp2_with fail)
        refine hK.out _ _ (by exact ⟨x_x.c0, x_x.c1, x_x.c2, x_y.c0, x_y.c1, x_y.c2, x_s.c0, x_s.c1, x_s.c2⟩) (fun hHeld => ?_)
        clear hK K
        (try simp only [Act.put, List.setIfInBounds_toArray, List.set_cons_zero, List.set_cons_succ])
        refine wpAnyH_take (i := 24) (oi := ({ dst := some 86, op := Op.binOp BinOp.eql 3 (Operand.tmp 85) (Operand.const (Value.int IntKind.i64 0)) 3, type := 4, pos := "law.go:92", after := #[{ on := 23, ground := Ground.data }, { on := 17, ground := Ground.guard }], guard := some (17, true) } : Oper)) (v := ?_) rfl (by kernel_rfl) (by kernel_rfl) (by kernel_rfl) (fun _ _ _ h => h) (Or.inl ⟨by rfl, ?_⟩) (by assumption) ?_
        rotate_left
        · (intro w9 hSw; (try dsimp only at hSw); go_simp; all_goals with_reducible rfl)
        (try simp only [Act.put, List.setIfInBounds_toArray, List.set_cons_zero, List.set_cons_succ])
        refine wpAnyH_take (i := 25) (oi := ({ dst := some 87, op := Op.pick (Operand.tmp 79) (Operand.tmp 86) (Operand.const (Value.bool false)), type := 4, pos := "law.go:92", after := #[{ on := 17, ground := Ground.data }, { on := 24, ground := Ground.data }, { on := 14, ground := Ground.guard }], guard := some (14, false) } : Oper)) (v := ?_) rfl (by kernel_rfl) (by kernel_rfl) (by kernel_rfl) (fun _ _ _ h => h) (Or.inl ⟨by rfl, ?_⟩) (by assumption) ?_
        rotate_left
        · (intro w9 hSw; (try dsimp only at hSw); go_simp; all_goals with_reducible rfl)
        (try simp only [Act.put, List.setIfInBounds_toArray, List.set_cons_zero, List.set_cons_succ])
        refine wpAnyH_take (i := 26) (oi := ({ dst := some 88, op := Op.pick (Operand.tmp 76) (Operand.const (Value.bool true)) (Operand.tmp 87), type := 4, pos := "law.go:92", after := #[{ on := 14, ground := Ground.data }, { on := 25, ground := Ground.data }, { on := 8, ground := Ground.guard }], guard := some (8, true) } : Oper)) (v := ?_) rfl (by kernel_rfl) (by kernel_rfl) (by kernel_rfl) (fun _ _ _ h => h) (Or.inl ⟨by rfl, ?_⟩) (by assumption) ?_
        rotate_left
        · (intro w9 hSw; (try dsimp only at hSw); go_simp; all_goals with_reducible rfl)
        (try simp only [Act.put, List.setIfInBounds_toArray, List.set_cons_zero, List.set_cons_succ])
        refine wpAnyH_take (i := 27) (oi := ({ dst := some 89, op := Op.pick (Operand.tmp 70) (Operand.tmp 88) (Operand.const (Value.bool false)), type := 4, pos := "law.go:92", after := #[{ on := 8, ground := Ground.data }, { on := 26, ground := Ground.data }], guard := none } : Oper)) (v := ?_) rfl (by kernel_rfl) (by kernel_rfl) (by kernel_rfl) (fun _ _ _ h => h) (Or.inl ⟨by rfl, ?_⟩) (by assumption) ?_
        rotate_left
        · (intro w9 hSw; (try dsimp only at hSw); go_simp; all_goals with_reducible rfl)
        (try simp only [Act.put, List.setIfInBounds_toArray, List.set_cons_zero, List.set_cons_succ])
        refine wpAnyH_take (i := 28) (oi := ({ dst := some 4, op := Op.assign (Operand.tmp 89), type := 4, pos := "law.go:92", after := #[{ on := 27, ground := Ground.data }, { on := 23, ground := Ground.chain }, { on := 0, ground := Ground.phase }, { on := 1, ground := Ground.phase }, { on := 2, ground := Ground.phase }, { on := 3, ground := Ground.phase }, { on := 4, ground := Ground.phase }, { on := 5, ground := Ground.phase }, { on := 6, ground := Ground.phase }, { on := 7, ground := Ground.phase }, { on := 8, ground := Ground.phase }, { on := 9, ground := Ground.phase }, { on := 10, ground := Ground.phase }, { on := 11, ground := Ground.phase }, { on := 12, ground := Ground.phase }, { on := 13, ground := Ground.phase }, { on := 14, ground := Ground.phase }, { on := 15, ground := Ground.phase }, { on := 16, ground := Ground.phase }, { on := 17, ground := Ground.phase }, { on := 18, ground := Ground.phase }, { on := 19, ground := Ground.phase }, { on := 20, ground := Ground.phase }, { on := 21, ground := Ground.phase }, { on := 22, ground := Ground.phase }, { on := 23, ground := Ground.phase }, { on := 24, ground := Ground.phase }, { on := 25, ground := Ground.phase }, { on := 26, ground := Ground.phase }, { on := 27, ground := Ground.phase }], guard := none } : Oper)) (v := ?_) rfl (by kernel_rfl) (by kernel_rfl) (by kernel_rfl) (fun _ _ _ h => h) (Or.inl ⟨by rfl, ?_⟩) (by assumption) ?_
        rotate_left
        · (intro w9 hSw; (try dsimp only at hSw); go_simp; all_goals with_reducible rfl)
        (try simp only [Act.put, List.setIfInBounds_toArray, List.set_cons_zero, List.set_cons_succ])
        refine wpAnyH_done (by kernel_rfl) ?_ _
        go_wp2
        go_ret
        exact ⟨rfl, hb⟩
      · have hg := hcm.2.2 hl
        have hl1 : ¬ a < b := by omega
        have hl2 : ¬ b < a := by omega
        clear hl
        have HG := Lib.hid hg; clear hg hcm
        have hb := Below.refl w.heap.size w
        go_enter Tryd.func5, Tryd.ntmps5
        go_wp2_with fail
        with_reducible refine (Bshown_any hT).mono ?_
        rintro e v1 ⟨rfl, hb1⟩
        replace hT := hT.keep hb1
        replace hb := bthen hb hb1
        clear hb1
        go_wp2_with fail
        with_reducible refine (Value_any _ a rfl HL.out.1 hT HF.out.1).mono ?_
        rintro e v2 ⟨A1, n1, c1, rfl, z_x, hb1⟩
        replace hT := hT.keep hb1
        replace hb := bthen hb hb1
        clear hb1
        rw [HQ.out.1] at z_x
        rw [HQ.out.1, HQ.out.2]
        go_wp2_with fail
        have hb1 := below_alloc v2 (.cells #[.bool (ngB Q), .slice A1 n1 c1, .int .i64 E] 30)
        have x_x := Dx.new v2 (ngB Q) A1 n1 c1 E
        have e_x : w.heap.size ≤ v2.heap.size := hb.size
        replace hT := hT.keep hb1
        replace z_x := z_x.keep hb1
        replace hb := bthen hb hb1
        clear hb1
        generalize v2.alloc (.cells #[.bool (ngB Q), .slice A1 n1 c1, .int .i64 E] 30) = v3 at *
        have q_x0 := x_x.c0; have q_x1 := x_x.c1; have f_x0 := x_x.fr 0; have f_x1 := x_x.fr 1; have q_x2 := x_x.c2; have f_x2 := x_x.fr 2
        skip
        with_reducible refine (Value_any _ b rfl HL.out.2 hT HF.out.2).mono ?_
        rintro e v4 ⟨A2, n2, c2, rfl, z_y, hb1⟩
        replace x_x := x_x.keep hb1
        replace hT := hT.keep hb1
        replace z_x := z_x.keep hb1
        replace hb := bthen hb hb1
        clear hb1
        replace q_x0 := x_x.c0; replace q_x1 := x_x.c1; replace f_x0 := x_x.fr 0; replace f_x1 := x_x.fr 1; replace q_x2 := x_x.c2; replace f_x2 := x_x.fr 2
        rw [HR.out.1] at z_y
        rw [HR.out.1, HR.out.2]
        have y_x := (x_x.alloc (.cells #[.bool (ngB R), .slice A2 n2 c2, .int .i64 F] 30)); have yq_x0 := y_x.c0; have yq_x1 := y_x.c1; have yq_x2 := y_x.c2
        go_wp2_with fail
        clear y_x yq_x0 yq_x1 yq_x2
        have hb1 := below_alloc v4 (.cells #[.bool (ngB R), .slice A2 n2 c2, .int .i64 F] 30)
        have l_x_y := x_x.lt
        have x_y := Dx.new v4 (ngB R) A2 n2 c2 F
        have e_y : w.heap.size ≤ v4.heap.size := hb.size
        replace x_x := x_x.keep hb1
        replace hT := hT.keep hb1
        replace z_x := z_x.keep hb1
        replace z_y := z_y.keep hb1
        replace hb := bthen hb hb1
        clear hb1
        replace q_x0 := x_x.c0; replace q_x1 := x_x.c1; replace f_x0 := x_x.fr 0; replace f_x1 := x_x.fr 1; replace q_x2 := x_x.c2; replace f_x2 := x_x.fr 2
        clear q_x0 q_x1 f_x0 f_x1 q_x2 f_x2
        generalize v4.alloc (.cells #[.bool (ngB R), .slice A2 n2 c2, .int .i64 F] 30) = v5 at *
        have q_x0 := x_x.c0; have q_x1 := x_x.c1; have f_x0 := x_x.fr 0; have f_x1 := x_x.fr 1; have q_x2 := x_x.c2; have f_x2 := x_x.fr 2
        have q_y0 := x_y.c0; have q_y1 := x_y.c1; have f_y0 := x_y.fr 0; have f_y1 := x_y.fr 1; have q_y2 := x_y.c2; have f_y2 := x_y.fr 2
        skip
        with_reducible refine (Binade_yes _ a rfl HL.out.1 HN.out).mono ?_
        rintro e v6 ⟨rfl, hb1⟩
        replace x_x := x_x.keep hb1
        replace x_y := x_y.keep hb1
        replace hT := hT.keep hb1
        replace z_x := z_x.keep hb1
        replace z_y := z_y.keep hb1
        replace hb := bthen hb hb1
        clear hb1
        replace q_x0 := x_x.c0; replace q_x1 := x_x.c1; replace f_x0 := x_x.fr 0; replace f_x1 := x_x.fr 1; replace q_x2 := x_x.c2; replace f_x2 := x_x.fr 2
        replace q_y0 := x_y.c0; replace q_y1 := x_y.c1; replace f_y0 := x_y.fr 0; replace f_y1 := x_y.fr 1; replace q_y2 := x_y.c2; replace f_y2 := x_y.fr 2
        go_wp2_with fail
        with_reducible refine (Value_any _ z1 rfl HK.out.2 hT HK.out.1).mono ?_
        rintro e v7 ⟨A3, n3, c3, rfl, z_z, hb1⟩
        replace x_x := x_x.keep hb1
        replace x_y := x_y.keep hb1
        replace hT := hT.keep hb1
        replace z_x := z_x.keep hb1
        replace z_y := z_y.keep hb1
        replace hb := bthen hb hb1
        clear hb1
        replace q_x0 := x_x.c0; replace q_x1 := x_x.c1; replace f_x0 := x_x.fr 0; replace f_x1 := x_x.fr 1; replace q_x2 := x_x.c2; replace f_x2 := x_x.fr 2
        replace q_y0 := x_y.c0; replace q_y1 := x_y.c1; replace f_y0 := x_y.fr 0; replace f_y1 := x_y.fr 1; replace q_y2 := x_y.c2; replace f_y2 := x_y.fr 2
        rw [HU.out.1] at z_z
        rw [HU.out.1, HU.out.2]
        have y_x := (x_x.alloc (.cells #[.bool (ngB U), .slice A3 n3 c3, .int .i64 G] 30)); have yq_x0 := y_x.c0; have yq_x1 := y_x.c1; have yq_x2 := y_x.c2
        have y_y := (x_y.alloc (.cells #[.bool (ngB U), .slice A3 n3 c3, .int .i64 G] 30)); have yq_y0 := y_y.c0; have yq_y1 := y_y.c1; have yq_y2 := y_y.c2
        go_wp2_with fail
        clear y_x yq_x0 yq_x1 yq_x2 y_y yq_y0 yq_y1 yq_y2
        have hb1 := below_alloc v7 (.cells #[.bool (ngB U), .slice A3 n3 c3, .int .i64 G] 30)
        have l_x_z := x_x.lt
        have l_y_z := x_y.lt
        have x_z := Dx.new v7 (ngB U) A3 n3 c3 G
        have e_z : w.heap.size ≤ v7.heap.size := hb.size
        replace x_x := x_x.keep hb1
        replace x_y := x_y.keep hb1
        replace hT := hT.keep hb1
        replace z_x := z_x.keep hb1
        replace z_y := z_y.keep hb1
        replace z_z := z_z.keep hb1
        replace hb := bthen hb hb1
        clear hb1
        replace q_x0 := x_x.c0; replace q_x1 := x_x.c1; replace f_x0 := x_x.fr 0; replace f_x1 := x_x.fr 1; replace q_x2 := x_x.c2; replace f_x2 := x_x.fr 2
        replace q_y0 := x_y.c0; replace q_y1 := x_y.c1; replace f_y0 := x_y.fr 0; replace f_y1 := x_y.fr 1; replace q_y2 := x_y.c2; replace f_y2 := x_y.fr 2
        clear q_x0 q_x1 f_x0 f_x1 q_x2 f_x2 q_y0 q_y1 f_y0 f_y1 q_y2 f_y2
        generalize v7.alloc (.cells #[.bool (ngB U), .slice A3 n3 c3, .int .i64 G] 30) = v8 at *
        have q_x0 := x_x.c0; have q_x1 := x_x.c1; have f_x0 := x_x.fr 0; have f_x1 := x_x.fr 1; have q_x2 := x_x.c2; have f_x2 := x_x.fr 2
        have q_y0 := x_y.c0; have q_y1 := x_y.c1; have f_y0 := x_y.fr 0; have f_y1 := x_y.fr 1; have q_y2 := x_y.c2; have f_y2 := x_y.fr 2
        have q_z0 := x_z.c0; have q_z1 := x_z.c1; have f_z0 := x_z.fr 0; have f_z1 := x_z.fr 1; have q_z2 := x_z.c2; have f_z2 := x_z.fr 2
        skip
        with_reducible refine (DSub_any z_z.zr z_x.zr hT 200 (by omega) (by omega) (by omega)).mono ?_
        rintro e v9 ⟨A4, n4, c4, rfl, z_s, hb1⟩
        replace x_x := x_x.keep hb1
        replace x_y := x_y.keep hb1
        replace x_z := x_z.keep hb1
        replace hT := hT.keep hb1
        replace z_x := z_x.keep hb1
        replace z_y := z_y.keep hb1
        replace z_z := z_z.keep hb1
        replace hb := bthen hb hb1
        clear hb1
        replace q_x0 := x_x.c0; replace q_x1 := x_x.c1; replace f_x0 := x_x.fr 0; replace f_x1 := x_x.fr 1; replace q_x2 := x_x.c2; replace f_x2 := x_x.fr 2
        replace q_y0 := x_y.c0; replace q_y1 := x_y.c1; replace f_y0 := x_y.fr 0; replace f_y1 := x_y.fr 1; replace q_y2 := x_y.c2; replace f_y2 := x_y.fr 2
        replace q_z0 := x_z.c0; replace q_z1 := x_z.c1; replace f_z0 := x_z.fr 0; replace f_z1 := x_z.fr 1; replace q_z2 := x_z.c2; replace f_z2 := x_z.fr 2
        rw [HST.out.1] at z_s
        rw [HST.out.1, HST.out.2]
        have y_x := (x_x.alloc (.cells #[.bool (ngB 1), .slice A4 n4 c4, .int .i64 (exN a)] 30)); have yq_x0 := y_x.c0; have yq_x1 := y_x.c1; have yq_x2 := y_x.c2
        have y_y := (x_y.alloc (.cells #[.bool (ngB 1), .slice A4 n4 c4, .int .i64 (exN a)] 30)); have yq_y0 := y_y.c0; have yq_y1 := y_y.c1; have yq_y2 := y_y.c2
        have y_z := (x_z.alloc (.cells #[.bool (ngB 1), .slice A4 n4 c4, .int .i64 (exN a)] 30)); have yq_z0 := y_z.c0; have yq_z1 := y_z.c1; have yq_z2 := y_z.c2
        go_wp2_with fail
        clear y_x yq_x0 yq_x1 yq_x2 y_y yq_y0 yq_y1 yq_y2 y_z yq_z0 yq_z1 yq_z2
        have hb1 := below_alloc v9 (.cells #[.bool (ngB 1), .slice A4 n4 c4, .int .i64 (exN a)] 30)
        have l_x_s := x_x.lt
        have l_y_s := x_y.lt
        have l_z_s := x_z.lt
        have x_s := Dx.new v9 (ngB 1) A4 n4 c4 (exN a)
        have e_s : w.heap.size ≤ v9.heap.size := hb.size
        replace x_x := x_x.keep hb1
        replace x_y := x_y.keep hb1
        replace x_z := x_z.keep hb1
        replace hT := hT.keep hb1
        replace z_x := z_x.keep hb1
        replace z_y := z_y.keep hb1
        replace z_z := z_z.keep hb1
        replace z_s := z_s.keep hb1
        replace hb := bthen hb hb1
        clear hb1
        replace q_x0 := x_x.c0; replace q_x1 := x_x.c1; replace f_x0 := x_x.fr 0; replace f_x1 := x_x.fr 1; replace q_x2 := x_x.c2; replace f_x2 := x_x.fr 2
        replace q_y0 := x_y.c0; replace q_y1 := x_y.c1; replace f_y0 := x_y.fr 0; replace f_y1 := x_y.fr 1; replace q_y2 := x_y.c2; replace f_y2 := x_y.fr 2
        replace q_z0 := x_z.c0; replace q_z1 := x_z.c1; replace f_z0 := x_z.fr 0; replace f_z1 := x_z.fr 1; replace q_z2 := x_z.c2; replace f_z2 := x_z.fr 2
        clear q_x0 q_x1 f_x0 f_x1 q_x2 f_x2 q_y0 q_y1 f_y0 f_y1 q_y2 f_y2 q_z0 q_z1 f_z0 f_z1 q_z2 f_z2
        generalize v9.alloc (.cells #[.bool (ngB 1), .slice A4 n4 c4, .int .i64 (exN a)] 30) = v10 at *
        have q_x0 := x_x.c0; have q_x1 := x_x.c1; have f_x0 := x_x.fr 0; have f_x1 := x_x.fr 1; have q_x2 := x_x.c2; have f_x2 := x_x.fr 2
        have q_y0 := x_y.c0; have q_y1 := x_y.c1; have f_y0 := x_y.fr 0; have f_y1 := x_y.fr 1; have q_y2 := x_y.c2; have f_y2 := x_y.fr 2
        have q_z0 := x_z.c0; have q_z1 := x_z.c1; have f_z0 := x_z.fr 0; have f_z1 := x_z.fr 1; have q_z2 := x_z.c2; have f_z2 := x_z.fr 2
        have q_s0 := x_s.c0; have q_s1 := x_s.c1; have f_s0 := x_s.fr 0; have f_s1 := x_s.fr 1; have q_s2 := x_s.c2; have f_s2 := x_s.fr 2
        refine wp_region_held_drew (S := fun w' => w'.cell? ⟨v2.heap.size, 0, none⟩ = some (.bool (ngB Q)) ∧ w'.cell? ⟨v2.heap.size, 1, none⟩ = some (.slice A1 n1 c1) ∧ w'.cell? ⟨v2.heap.size, 2, none⟩ = some (.int .i64 E) ∧ w'.cell? ⟨v4.heap.size, 0, none⟩ = some (.bool (ngB R)) ∧ w'.cell? ⟨v4.heap.size, 1, none⟩ = some (.slice A2 n2 c2) ∧ w'.cell? ⟨v4.heap.size, 2, none⟩ = some (.int .i64 F) ∧ w'.cell? ⟨v9.heap.size, 0, none⟩ = some (.bool (ngB 1)) ∧ w'.cell? ⟨v9.heap.size, 1, none⟩ = some (.slice A4 n4 c4) ∧ w'.cell? ⟨v9.heap.size, 2, none⟩ = some (.int .i64 (exN a))) (by kernel_rfl) (by exact ⟨x_x.c0, x_x.c1, x_x.c2, x_y.c0, x_y.c1, x_y.c2, x_s.c0, x_s.c1, x_s.c2⟩) (fun hHeld => ?_)
        refine wpAnyH_take (i := 0) (oi := ({ dst := some 62, op := Op.move (Operand.tmp 5), type := 4, pos := "law.go:92", after := #[], guard := none } : Oper)) (v := ?_) rfl (by kernel_rfl) (by kernel_rfl) (by kernel_rfl) (fun _ _ _ h => h) (Or.inl ⟨by rfl, ?_⟩) (by assumption) ?_
        rotate_left
        · (intro w9 hSw; (try dsimp only at hSw); go_simp; all_goals with_reducible rfl)
        (try simp only [Act.put, List.setIfInBounds_toArray, List.set_cons_zero, List.set_cons_succ])
        refine wpAnyH_take (i := 1) (oi := ({ dst := some 63, op := Op.move (Operand.tmp 62), type := 4, pos := "law.go:92", after := #[{ on := 0, ground := Ground.data }], guard := none } : Oper)) (v := ?_) rfl (by kernel_rfl) (by kernel_rfl) (by kernel_rfl) (fun _ _ _ h => h) (Or.inl ⟨by rfl, ?_⟩) (by assumption) ?_
        rotate_left
        · (intro w9 hSw; (try dsimp only at hSw); go_simp; all_goals with_reducible rfl)
        (try simp only [Act.put, List.setIfInBounds_toArray, List.set_cons_zero, List.set_cons_succ])
        refine wpAnyH_take (i := 2) (oi := ({ dst := some 64, op := Op.load 30 (Operand.tmp 6), type := 30, pos := "law.go:92", after := #[{ on := 1, ground := Ground.guard }], guard := some (1, true) } : Oper)) (v := ?_) rfl (by kernel_rfl) (by kernel_rfl) (by kernel_rfl) (fun _ _ _ h => h) (Or.inl ⟨by rfl, ?_⟩) (by assumption) ?_
        rotate_left
        · (intro w9 hSw; (try dsimp only at hSw); go_simp; all_goals with_reducible rfl)
        (try simp only [Act.put, List.setIfInBounds_toArray, List.set_cons_zero, List.set_cons_succ])
        refine wpAnyH_take (i := 3) (oi := ({ dst := some 65, op := Op.load 30 (Operand.tmp 8), type := 30, pos := "law.go:92", after := #[{ on := 1, ground := Ground.guard }], guard := some (1, true) } : Oper)) (v := ?_) rfl (by kernel_rfl) (by kernel_rfl) (by kernel_rfl) (fun _ _ _ h => h) (Or.inl ⟨by rfl, ?_⟩) (by assumption) ?_
        rotate_left
        · (intro w9 hSw; (try dsimp only at hSw); go_simp; all_goals with_reducible rfl)
        (try simp only [Act.put, List.setIfInBounds_toArray, List.set_cons_zero, List.set_cons_succ])
        refine wpAnyH_take (i := 5) (oi := ({ dst := some 67, op := Op.move (Operand.tmp 10), type := 3, pos := "law.go:92", after := #[{ on := 1, ground := Ground.guard }], guard := some (1, true) } : Oper)) (v := ?_) rfl (by kernel_rfl) (by kernel_rfl) (by kernel_rfl) (fun _ _ _ h => h) (Or.inl ⟨by rfl, ?_⟩) (by assumption) ?_
        rotate_left
        · (intro w9 hSw; (try dsimp only at hSw); go_simp; all_goals with_reducible rfl)
        (try simp only [Act.put, List.setIfInBounds_toArray, List.set_cons_zero, List.set_cons_succ])
        refine wpAnyH_ready (rs := [4]) (by kernel_rfl) (by simp) ?_
        refine AllReadyH.cons (o := ({ dst := some 66, op := Op.call { callee := Callee.value (Operand.func 20), args := #[Operand.tmp 64, Operand.tmp 65], argTypes := #[30, 30] }, type := 3, pos := "law.go:92", after := #[{ on := 2, ground := Ground.data }, { on := 3, ground := Ground.data }, { on := 1, ground := Ground.chain }, { on := 1, ground := Ground.guard }], guard := some (1, true) } : Oper)) rfl (fun K hK => ?_) AllReadyH.nil
        go_simp
        with_reducible refine (DCmp_any z_x.zr.drw z_y.zr.drw (by omega) (by omega)).mono ?_
        rintro e v11 ⟨rfl, hb1⟩
        replace hb1 := undrew hb1
        replace x_x := x_x.keep hb1
        replace x_y := x_y.keep hb1
        replace x_z := x_z.keep hb1
        replace x_s := x_s.keep hb1
        replace hT := hT.keep hb1
        replace z_x := z_x.keep hb1
        replace z_y := z_y.keep hb1
        replace z_z := z_z.keep hb1
        replace z_s := z_s.keep hb1
        replace hb := bthen hb hb1
        clear hb1
        replace q_x0 := x_x.c0; replace q_x1 := x_x.c1; replace f_x0 := x_x.fr 0; replace f_x1 := x_x.fr 1; replace q_x2 := x_x.c2; replace f_x2 := x_x.fr 2
        replace q_y0 := x_y.c0; replace q_y1 := x_y.c1; replace f_y0 := x_y.fr 0; replace f_y1 := x_y.fr 1; replace q_y2 := x_y.c2; replace f_y2 := x_y.fr 2
        replace q_z0 := x_z.c0; replace q_z1 := x_z.c1; replace f_z0 := x_z.fr 0; replace f_z1 := x_z.fr 1; replace q_z2 := x_z.c2; replace f_z2 := x_z.fr 2
        replace q_s0 := x_s.c0; replace q_s1 := x_s.c1; replace f_s0 := x_s.fr 0; replace f_s1 := x_s.fr 1; replace q_s2 := x_s.c2; replace f_s2 := x_s.fr 2
        rw [HC.out, HG.out]
        (try go_wp2_with fail)
        refine hK.out _ _ (by exact ⟨x_x.c0, x_x.c1, x_x.c2, x_y.c0, x_y.c1, x_y.c2, x_s.c0, x_s.c1, x_s.c2⟩) (fun hHeld => ?_)
        clear hK K
        (try simp only [Act.put, List.setIfInBounds_toArray, List.set_cons_zero, List.set_cons_succ])
        refine wpAnyH_take (i := 6) (oi := ({ dst := some 68, op := Op.binOp BinOp.eql 3 (Operand.tmp 66) (Operand.tmp 67) 3, type := 4, pos := "law.go:92", after := #[{ on := 4, ground := Ground.data }, { on := 5, ground := Ground.data }, { on := 1, ground := Ground.guard }], guard := some (1, true) } : Oper)) (v := ?_) rfl (by kernel_rfl) (by kernel_rfl) (by kernel_rfl) (fun _ _ _ h => h) (Or.inl ⟨by rfl, ?_⟩) (by assumption) ?_
        rotate_left
        · (intro w9 hSw; (try dsimp only at hSw); go_simp; all_goals with_reducible rfl)
        (try simp only [Act.put, List.setIfInBounds_toArray, List.set_cons_zero, List.set_cons_succ])
        refine wpAnyH_take (i := 7) (oi := ({ dst := some 69, op := Op.pick (Operand.tmp 63) (Operand.tmp 68) (Operand.const (Value.bool false)), type := 4, pos := "law.go:92", after := #[{ on := 1, ground := Ground.data }, { on := 6, ground := Ground.data }], guard := none } : Oper)) (v := ?_) rfl (by kernel_rfl) (by kernel_rfl) (by kernel_rfl) (fun _ _ _ h => h) (Or.inl ⟨by rfl, ?_⟩) (by assumption) ?_
        rotate_left
        · (intro w9 hSw; (try dsimp only at hSw); go_simp; all_goals with_reducible rfl)
        (try simp only [Act.put, List.setIfInBounds_toArray, List.set_cons_zero, List.set_cons_succ])
        refine wpAnyH_take (i := 8) (oi := ({ dst := some 70, op := Op.move (Operand.tmp 69), type := 4, pos := "law.go:92", after := #[{ on := 7, ground := Ground.data }, { on := 4, ground := Ground.chain }], guard := none } : Oper)) (v := ?_) rfl (by kernel_rfl) (by kernel_rfl) (by kernel_rfl) (fun _ _ _ h => h) (Or.inl ⟨by rfl, ?_⟩) (by assumption) ?_
        rotate_left
        · (intro w9 hSw; (try dsimp only at hSw); go_simp; all_goals with_reducible rfl)
        (try simp only [Act.put, List.setIfInBounds_toArray, List.set_cons_zero, List.set_cons_succ])
        refine wpAnyH_take (i := 9) (oi := ({ dst := some 71, op := Op.move (Operand.tmp 16), type := 4, pos := "law.go:92", after := #[{ on := 8, ground := Ground.guard }], guard := some (8, true) } : Oper)) (v := ?_) rfl (by kernel_rfl) (by kernel_rfl) (by kernel_rfl) (fun _ _ _ h => h) (Or.inl ⟨by rfl, ?_⟩) (by assumption) ?_
        rotate_left
        · (intro w9 hSw; (try dsimp only at hSw); go_simp; all_goals with_reducible rfl)
        (try simp only [Act.put, List.setIfInBounds_toArray, List.set_cons_zero, List.set_cons_succ])
        refine wpAnyH_take (i := 10) (oi := ({ dst := some 72, op := Op.move (Operand.tmp 71), type := 4, pos := "law.go:92", after := #[{ on := 9, ground := Ground.data }, { on := 8, ground := Ground.chain }, { on := 8, ground := Ground.guard }], guard := some (8, true) } : Oper)) (v := ?_) rfl (by kernel_rfl) (by kernel_rfl) (by kernel_rfl) (fun _ _ _ h => h) (Or.inl ⟨by rfl, ?_⟩) (by assumption) ?_
        rotate_left
        · (intro w9 hSw; (try dsimp only at hSw); go_simp; all_goals with_reducible rfl)
        (try simp only [Act.put, List.setIfInBounds_toArray, List.set_cons_zero, List.set_cons_succ])
        refine wpAnyH_take (i := 11) (oi := ({ dst := some 73, op := Op.move (Operand.tmp 14), type := 31, pos := "law.go:92", after := #[{ on := 10, ground := Ground.guard }], guard := some (10, true) } : Oper)) (v := undef) rfl (by kernel_rfl) (by kernel_rfl) (by kernel_rfl) (fun _ _ _ h => h) (Or.inr ⟨by rfl, rfl⟩) (by assumption) ?_
        (try simp only [Act.put, List.setIfInBounds_toArray, List.set_cons_zero, List.set_cons_succ])
        refine wpAnyH_take (i := 12) (oi := ({ dst := some 74, op := Op.binOp BinOp.eql 31 (Operand.tmp 73) (Operand.const (Value.int IntKind.i64 1)) 31, type := 4, pos := "law.go:92", after := #[{ on := 11, ground := Ground.data }, { on := 10, ground := Ground.guard }], guard := some (10, true) } : Oper)) (v := undef) rfl (by kernel_rfl) (by kernel_rfl) (by kernel_rfl) (fun _ _ _ h => h) (Or.inr ⟨by rfl, rfl⟩) (by assumption) ?_
        (try simp only [Act.put, List.setIfInBounds_toArray, List.set_cons_zero, List.set_cons_succ])
        refine wpAnyH_take (i := 13) (oi := ({ dst := some 75, op := Op.pick (Operand.tmp 72) (Operand.tmp 74) (Operand.const (Value.bool false)), type := 4, pos := "law.go:92", after := #[{ on := 10, ground := Ground.data }, { on := 12, ground := Ground.data }, { on := 8, ground := Ground.guard }], guard := some (8, true) } : Oper)) (v := ?_) rfl (by kernel_rfl) (by kernel_rfl) (by kernel_rfl) (fun _ _ _ h => h) (Or.inl ⟨by rfl, ?_⟩) (by assumption) ?_
        rotate_left
        · (intro w9 hSw; (try dsimp only at hSw); go_simp; all_goals with_reducible rfl)
        (try simp only [Act.put, List.setIfInBounds_toArray, List.set_cons_zero, List.set_cons_succ])
        refine wpAnyH_take (i := 14) (oi := ({ dst := some 76, op := Op.move (Operand.tmp 75), type := 4, pos := "law.go:92", after := #[{ on := 13, ground := Ground.data }, { on := 10, ground := Ground.chain }, { on := 8, ground := Ground.guard }], guard := some (8, true) } : Oper)) (v := ?_) rfl (by kernel_rfl) (by kernel_rfl) (by kernel_rfl) (fun _ _ _ h => h) (Or.inl ⟨by rfl, ?_⟩) (by assumption) ?_
        rotate_left
        · (intro w9 hSw; (try dsimp only at hSw); go_simp; all_goals with_reducible rfl)
        (try simp only [Act.put, List.setIfInBounds_toArray, List.set_cons_zero, List.set_cons_succ])
        refine wpAnyH_take (i := 15) (oi := ({ dst := some 77, op := Op.move (Operand.tmp 16), type := 4, pos := "law.go:92", after := #[{ on := 14, ground := Ground.guard }], guard := some (14, false) } : Oper)) (v := ?_) rfl (by kernel_rfl) (by kernel_rfl) (by kernel_rfl) (fun _ _ _ h => h) (Or.inl ⟨by rfl, ?_⟩) (by assumption) ?_
        rotate_left
        · (intro w9 hSw; (try dsimp only at hSw); go_simp; all_goals with_reducible rfl)
        (try simp only [Act.put, List.setIfInBounds_toArray, List.set_cons_zero, List.set_cons_succ])
        refine wpAnyH_take (i := 16) (oi := ({ dst := some 78, op := Op.unOp UnOp.not 4 (Operand.tmp 77), type := 4, pos := "law.go:92", after := #[{ on := 15, ground := Ground.data }, { on := 14, ground := Ground.guard }], guard := some (14, false) } : Oper)) (v := ?_) rfl (by kernel_rfl) (by kernel_rfl) (by kernel_rfl) (fun _ _ _ h => h) (Or.inl ⟨by rfl, ?_⟩) (by assumption) ?_
        rotate_left
        · (intro w9 hSw; (try dsimp only at hSw); go_simp; all_goals with_reducible rfl)
        (try simp only [Act.put, List.setIfInBounds_toArray, List.set_cons_zero, List.set_cons_succ])
        refine wpAnyH_take (i := 17) (oi := ({ dst := some 79, op := Op.move (Operand.tmp 78), type := 4, pos := "law.go:92", after := #[{ on := 16, ground := Ground.data }, { on := 14, ground := Ground.chain }, { on := 14, ground := Ground.guard }], guard := some (14, false) } : Oper)) (v := ?_) rfl (by kernel_rfl) (by kernel_rfl) (by kernel_rfl) (fun _ _ _ h => h) (Or.inl ⟨by rfl, ?_⟩) (by assumption) ?_
        rotate_left
        · (intro w9 hSw; (try dsimp only at hSw); go_simp; all_goals with_reducible rfl)
        (try simp only [Act.put, List.setIfInBounds_toArray, List.set_cons_zero, List.set_cons_succ])
        refine wpAnyH_take (i := 18) (oi := ({ dst := some 80, op := Op.load 30 (Operand.tmp 15), type := 30, pos := "law.go:92", after := #[{ on := 17, ground := Ground.guard }], guard := some (17, true) } : Oper)) (v := ?_) rfl (by kernel_rfl) (by kernel_rfl) (by kernel_rfl) (fun _ _ _ h => h) (Or.inl ⟨by rfl, ?_⟩) (by assumption) ?_
        rotate_left
        · (intro w9 hSw; (try dsimp only at hSw); go_simp; all_goals with_reducible rfl)
        (try simp only [Act.put, List.setIfInBounds_toArray, List.set_cons_zero, List.set_cons_succ])
        refine wpAnyH_take (i := 20) (oi := ({ dst := some 82, op := Op.move (Operand.tmp 11), type := 3, pos := "law.go:92", after := #[{ on := 17, ground := Ground.guard }], guard := some (17, true) } : Oper)) (v := ?_) rfl (by kernel_rfl) (by kernel_rfl) (by kernel_rfl) (fun _ _ _ h => h) (Or.inl ⟨by rfl, ?_⟩) (by assumption) ?_
        rotate_left
        · (intro w9 hSw; (try dsimp only at hSw); go_simp; all_goals with_reducible rfl)
        (try simp only [Act.put, List.setIfInBounds_toArray, List.set_cons_zero, List.set_cons_succ])
        refine wpAnyH_take (i := 21) (oi := ({ dst := some 83, op := Op.binOp BinOp.sub 3 (Operand.tmp 82) (Operand.const (Value.int IntKind.i64 52)) 3, type := 3, pos := "law.go:92", after := #[{ on := 20, ground := Ground.data }, { on := 17, ground := Ground.guard }], guard := some (17, true) } : Oper)) (v := ?_) rfl (by kernel_rfl) (by kernel_rfl) (by kernel_rfl) (fun _ _ _ h => h) (Or.inl ⟨by rfl, ?_⟩) (by assumption) ?_
        rotate_left
        · (intro w9 hSw; (try dsimp only at hSw); go_simp; all_goals with_reducible rfl)
        (try simp only [Act.put, List.setIfInBounds_toArray, List.set_cons_zero, List.set_cons_succ])
        refine wpAnyH_ready (rs := [19]) (by kernel_rfl) (by simp) ?_
        refine AllReadyH.cons (o := ({ dst := some 81, op := Op.call { callee := Callee.value (Operand.func 22), args := #[Operand.const (Value.int IntKind.i64 1)], argTypes := #[2] }, type := 28, pos := "law.go:92", after := #[{ on := 17, ground := Ground.chain }, { on := 17, ground := Ground.guard }], guard := some (17, true) } : Oper)) rfl (fun K hK => ?_) AllReadyH.nil
        go_simp
        with_reducible refine (ZOf_any 1 (by omega) (by omega)).mono ?_
        rintro e v12 ⟨A5, n5, c5, rfl, za, hb1⟩
        replace x_x := x_x.keep hb1
        replace x_y := x_y.keep hb1
        replace x_z := x_z.keep hb1
        replace x_s := x_s.keep hb1
        replace hT := hT.keep hb1
        replace z_x := z_x.keep hb1
        replace z_y := z_y.keep hb1
        replace z_z := z_z.keep hb1
        replace z_s := z_s.keep hb1
        replace hb := bthen hb hb1
        clear hb1
        replace q_x0 := x_x.c0; replace q_x1 := x_x.c1; replace f_x0 := x_x.fr 0; replace f_x1 := x_x.fr 1; replace q_x2 := x_x.c2; replace f_x2 := x_x.fr 2
        replace q_y0 := x_y.c0; replace q_y1 := x_y.c1; replace f_y0 := x_y.fr 0; replace f_y1 := x_y.fr 1; replace q_y2 := x_y.c2; replace f_y2 := x_y.fr 2
        replace q_z0 := x_z.c0; replace q_z1 := x_z.c1; replace f_z0 := x_z.fr 0; replace f_z1 := x_z.fr 1; replace q_z2 := x_z.c2; replace f_z2 := x_z.fr 2
        replace q_s0 := x_s.c0; replace q_s1 := x_s.c1; replace f_s0 := x_s.fr 0; replace f_s1 := x_s.fr 1; replace q_s2 := x_s.c2; replace f_s2 := x_s.fr 2
        (try go_wp2_with fail)
        refine hK.out _ _ (by exact ⟨x_x.c0, x_x.c1, x_x.c2, x_y.c0, x_y.c1, x_y.c2, x_s.c0, x_s.c1, x_s.c2⟩) (fun hHeld => ?_)
        clear hK K
        (try simp only [Act.put, List.setIfInBounds_toArray, List.set_cons_zero, List.set_cons_succ])
        refine wpAnyH_ready (rs := [22]) (by kernel_rfl) (by simp) ?_
        refine AllReadyH.cons (o := ({ dst := some 84, op := Op.call { callee := Callee.value (Operand.func 21), args := #[Operand.tmp 81, Operand.tmp 83], argTypes := #[28, 3] }, type := 30, pos := "law.go:92", after := #[{ on := 19, ground := Ground.data }, { on := 21, ground := Ground.data }, { on := 19, ground := Ground.chain }, { on := 17, ground := Ground.guard }], guard := some (17, true) } : Oper)) rfl (fun K hK => ?_) AllReadyH.nil
        go_simp
        with_reducible refine (DOf_any za.zr hT 2 (by omega) (by omega)).mono ?_
        rintro e v13 ⟨A6, n6, c6, rfl, zb, hb1⟩
        replace x_x := x_x.keep hb1
        replace x_y := x_y.keep hb1
        replace x_z := x_z.keep hb1
        replace x_s := x_s.keep hb1
        replace hT := hT.keep hb1
        replace z_x := z_x.keep hb1
        replace z_y := z_y.keep hb1
        replace z_z := z_z.keep hb1
        replace z_s := z_s.keep hb1
        replace za := za.keep hb1
        replace hb := bthen hb hb1
        clear hb1
        replace q_x0 := x_x.c0; replace q_x1 := x_x.c1; replace f_x0 := x_x.fr 0; replace f_x1 := x_x.fr 1; replace q_x2 := x_x.c2; replace f_x2 := x_x.fr 2
        replace q_y0 := x_y.c0; replace q_y1 := x_y.c1; replace f_y0 := x_y.fr 0; replace f_y1 := x_y.fr 1; replace q_y2 := x_y.c2; replace f_y2 := x_y.fr 2
        replace q_z0 := x_z.c0; replace q_z1 := x_z.c1; replace f_z0 := x_z.fr 0; replace f_z1 := x_z.fr 1; replace q_z2 := x_z.c2; replace f_z2 := x_z.fr 2
        replace q_s0 := x_s.c0; replace q_s1 := x_s.c1; replace f_s0 := x_s.fr 0; replace f_s1 := x_s.fr 1; replace q_s2 := x_s.c2; replace f_s2 := x_s.fr 2
        rw [HOF.out.1] at zb
        rw [HOF.out.1, HOF.out.2]
        (try go_wp2_with fail)
        refine hK.out _ _ (by exact ⟨x_x.c0, x_x.c1, x_x.c2, x_y.c0, x_y.c1, x_y.c2, x_s.c0, x_s.c1, x_s.c2⟩) (fun hHeld => ?_)
        clear hK K
        (try simp only [Act.put, List.setIfInBounds_toArray, List.set_cons_zero, List.set_cons_succ])
        refine wpAnyH_ready (rs := [23]) (by kernel_rfl) (by simp) ?_
        refine AllReadyH.cons (o := ({ dst := some 85, op := Op.call { callee := Callee.value (Operand.func 20), args := #[Operand.tmp 80, Operand.tmp 84], argTypes := #[30, 30] }, type := 3, pos := "law.go:92", after := #[{ on := 18, ground := Ground.data }, { on := 22, ground := Ground.data }, { on := 22, ground := Ground.chain }, { on := 17, ground := Ground.guard }], guard := some (17, true) } : Oper)) rfl (fun K hK => ?_) AllReadyH.nil
        go_simp
        with_reducible refine (DCmp_any z_s.zr zb.zr (by omega) (by omega)).mono ?_
        rintro e v14 ⟨rfl, hb1⟩
        replace x_x := x_x.keep hb1
        replace x_y := x_y.keep hb1
        replace x_z := x_z.keep hb1
        replace x_s := x_s.keep hb1
        replace hT := hT.keep hb1
        replace z_x := z_x.keep hb1
        replace z_y := z_y.keep hb1
        replace z_z := z_z.keep hb1
        replace z_s := z_s.keep hb1
        replace za := za.keep hb1
        replace zb := zb.keep hb1
        replace hb := bthen hb hb1
        clear hb1
        replace q_x0 := x_x.c0; replace q_x1 := x_x.c1; replace f_x0 := x_x.fr 0; replace f_x1 := x_x.fr 1; replace q_x2 := x_x.c2; replace f_x2 := x_x.fr 2
        replace q_y0 := x_y.c0; replace q_y1 := x_y.c1; replace f_y0 := x_y.fr 0; replace f_y1 := x_y.fr 1; replace q_y2 := x_y.c2; replace f_y2 := x_y.fr 2
        replace q_z0 := x_z.c0; replace q_z1 := x_z.c1; replace f_z0 := x_z.fr 0; replace f_z1 := x_z.fr 1; replace q_z2 := x_z.c2; replace f_z2 := x_z.fr 2
        replace q_s0 := x_s.c0; replace q_s1 := x_s.c1; replace f_s0 := x_s.fr 0; replace f_s1 := x_s.fr 1; replace q_s2 := x_s.c2; replace f_s2 := x_s.fr 2
        rw [HC0.out]
        (try go_wp2_with fail)
        refine hK.out _ _ (by exact ⟨x_x.c0, x_x.c1, x_x.c2, x_y.c0, x_y.c1, x_y.c2, x_s.c0, x_s.c1, x_s.c2⟩) (fun hHeld => ?_)
        clear hK K
        (try simp only [Act.put, List.setIfInBounds_toArray, List.set_cons_zero, List.set_cons_succ])
        refine wpAnyH_take (i := 24) (oi := ({ dst := some 86, op := Op.binOp BinOp.eql 3 (Operand.tmp 85) (Operand.const (Value.int IntKind.i64 0)) 3, type := 4, pos := "law.go:92", after := #[{ on := 23, ground := Ground.data }, { on := 17, ground := Ground.guard }], guard := some (17, true) } : Oper)) (v := ?_) rfl (by kernel_rfl) (by kernel_rfl) (by kernel_rfl) (fun _ _ _ h => h) (Or.inl ⟨by rfl, ?_⟩) (by assumption) ?_
        rotate_left
        · (intro w9 hSw; (try dsimp only at hSw); go_simp; all_goals with_reducible rfl)
        (try simp only [Act.put, List.setIfInBounds_toArray, List.set_cons_zero, List.set_cons_succ])
        refine wpAnyH_take (i := 25) (oi := ({ dst := some 87, op := Op.pick (Operand.tmp 79) (Operand.tmp 86) (Operand.const (Value.bool false)), type := 4, pos := "law.go:92", after := #[{ on := 17, ground := Ground.data }, { on := 24, ground := Ground.data }, { on := 14, ground := Ground.guard }], guard := some (14, false) } : Oper)) (v := ?_) rfl (by kernel_rfl) (by kernel_rfl) (by kernel_rfl) (fun _ _ _ h => h) (Or.inl ⟨by rfl, ?_⟩) (by assumption) ?_
        rotate_left
        · (intro w9 hSw; (try dsimp only at hSw); go_simp; all_goals with_reducible rfl)
        (try simp only [Act.put, List.setIfInBounds_toArray, List.set_cons_zero, List.set_cons_succ])
        refine wpAnyH_take (i := 26) (oi := ({ dst := some 88, op := Op.pick (Operand.tmp 76) (Operand.const (Value.bool true)) (Operand.tmp 87), type := 4, pos := "law.go:92", after := #[{ on := 14, ground := Ground.data }, { on := 25, ground := Ground.data }, { on := 8, ground := Ground.guard }], guard := some (8, true) } : Oper)) (v := ?_) rfl (by kernel_rfl) (by kernel_rfl) (by kernel_rfl) (fun _ _ _ h => h) (Or.inl ⟨by rfl, ?_⟩) (by assumption) ?_
        rotate_left
        · (intro w9 hSw; (try dsimp only at hSw); go_simp; all_goals with_reducible rfl)
        (try simp only [Act.put, List.setIfInBounds_toArray, List.set_cons_zero, List.set_cons_succ])
        refine wpAnyH_take (i := 27) (oi := ({ dst := some 89, op := Op.pick (Operand.tmp 70) (Operand.tmp 88) (Operand.const (Value.bool false)), type := 4, pos := "law.go:92", after := #[{ on := 8, ground := Ground.data }, { on := 26, ground := Ground.data }], guard := none } : Oper)) (v := ?_) rfl (by kernel_rfl) (by kernel_rfl) (by kernel_rfl) (fun _ _ _ h => h) (Or.inl ⟨by rfl, ?_⟩) (by assumption) ?_
        rotate_left
        · (intro w9 hSw; (try dsimp only at hSw); go_simp; all_goals with_reducible rfl)
        (try simp only [Act.put, List.setIfInBounds_toArray, List.set_cons_zero, List.set_cons_succ])
        refine wpAnyH_take (i := 28) (oi := ({ dst := some 4, op := Op.assign (Operand.tmp 89), type := 4, pos := "law.go:92", after := #[{ on := 27, ground := Ground.data }, { on := 23, ground := Ground.chain }, { on := 0, ground := Ground.phase }, { on := 1, ground := Ground.phase }, { on := 2, ground := Ground.phase }, { on := 3, ground := Ground.phase }, { on := 4, ground := Ground.phase }, { on := 5, ground := Ground.phase }, { on := 6, ground := Ground.phase }, { on := 7, ground := Ground.phase }, { on := 8, ground := Ground.phase }, { on := 9, ground := Ground.phase }, { on := 10, ground := Ground.phase }, { on := 11, ground := Ground.phase }, { on := 12, ground := Ground.phase }, { on := 13, ground := Ground.phase }, { on := 14, ground := Ground.phase }, { on := 15, ground := Ground.phase }, { on := 16, ground := Ground.phase }, { on := 17, ground := Ground.phase }, { on := 18, ground := Ground.phase }, { on := 19, ground := Ground.phase }, { on := 20, ground := Ground.phase }, { on := 21, ground := Ground.phase }, { on := 22, ground := Ground.phase }, { on := 23, ground := Ground.phase }, { on := 24, ground := Ground.phase }, { on := 25, ground := Ground.phase }, { on := 26, ground := Ground.phase }, { on := 27, ground := Ground.phase }], guard := none } : Oper)) (v := ?_) rfl (by kernel_rfl) (by kernel_rfl) (by kernel_rfl) (fun _ _ _ h => h) (Or.inl ⟨by rfl, ?_⟩) (by assumption) ?_
        rotate_left
        · (intro w9 hSw; (try dsimp only at hSw); go_simp; all_goals with_reducible rfl)
        (try simp only [Act.put, List.setIfInBounds_toArray, List.set_cons_zero, List.set_cons_succ])
        refine wpAnyH_done (by kernel_rfl) ?_ _
        go_wp2
        go_ret
        exact ⟨rfl, hb⟩
      · have hg := hcm.2.1 hl
        have hl2 : ¬ a < b := by omega
        have HG := Lib.hid hg; clear hg hcm
        have hb := Below.refl w.heap.size w
        go_enter Tryd.func5, Tryd.ntmps5
        go_wp2_with fail
        with_reducible refine (Bshown_any hT).mono ?_
        rintro e v1 ⟨rfl, hb1⟩
        replace hT := hT.keep hb1
        replace hb := bthen hb hb1
        clear hb1
        go_wp2_with fail
        with_reducible refine (Value_any _ a rfl HL.out.1 hT HF.out.1).mono ?_
        rintro e v2 ⟨A1, n1, c1, rfl, z_x, hb1⟩
        replace hT := hT.keep hb1
        replace hb := bthen hb hb1
        clear hb1
        rw [HQ.out.1] at z_x
        rw [HQ.out.1, HQ.out.2]
        go_wp2_with fail
        have hb1 := below_alloc v2 (.cells #[.bool (ngB Q), .slice A1 n1 c1, .int .i64 E] 30)
        have x_x := Dx.new v2 (ngB Q) A1 n1 c1 E
        have e_x : w.heap.size ≤ v2.heap.size := hb.size
        replace hT := hT.keep hb1
        replace z_x := z_x.keep hb1
        replace hb := bthen hb hb1
        clear hb1
        generalize v2.alloc (.cells #[.bool (ngB Q), .slice A1 n1 c1, .int .i64 E] 30) = v3 at *
        have q_x0 := x_x.c0; have q_x1 := x_x.c1; have f_x0 := x_x.fr 0; have f_x1 := x_x.fr 1; have q_x2 := x_x.c2; have f_x2 := x_x.fr 2
        skip
        with_reducible refine (Value_any _ b rfl HL.out.2 hT HF.out.2).mono ?_
        rintro e v4 ⟨A2, n2, c2, rfl, z_y, hb1⟩
        replace x_x := x_x.keep hb1
        replace hT := hT.keep hb1
        replace z_x := z_x.keep hb1
        replace hb := bthen hb hb1
        clear hb1
        replace q_x0 := x_x.c0; replace q_x1 := x_x.c1; replace f_x0 := x_x.fr 0; replace f_x1 := x_x.fr 1; replace q_x2 := x_x.c2; replace f_x2 := x_x.fr 2
        rw [HR.out.1] at z_y
        rw [HR.out.1, HR.out.2]
        have y_x := (x_x.alloc (.cells #[.bool (ngB R), .slice A2 n2 c2, .int .i64 F] 30)); have yq_x0 := y_x.c0; have yq_x1 := y_x.c1; have yq_x2 := y_x.c2
        go_wp2_with fail
        clear y_x yq_x0 yq_x1 yq_x2
        have hb1 := below_alloc v4 (.cells #[.bool (ngB R), .slice A2 n2 c2, .int .i64 F] 30)
        have l_x_y := x_x.lt
        have x_y := Dx.new v4 (ngB R) A2 n2 c2 F
        have e_y : w.heap.size ≤ v4.heap.size := hb.size
        replace x_x := x_x.keep hb1
        replace hT := hT.keep hb1
        replace z_x := z_x.keep hb1
        replace z_y := z_y.keep hb1
        replace hb := bthen hb hb1
        clear hb1
        replace q_x0 := x_x.c0; replace q_x1 := x_x.c1; replace f_x0 := x_x.fr 0; replace f_x1 := x_x.fr 1; replace q_x2 := x_x.c2; replace f_x2 := x_x.fr 2
        clear q_x0 q_x1 f_x0 f_x1 q_x2 f_x2
        generalize v4.alloc (.cells #[.bool (ngB R), .slice A2 n2 c2, .int .i64 F] 30) = v5 at *
        have q_x0 := x_x.c0; have q_x1 := x_x.c1; have f_x0 := x_x.fr 0; have f_x1 := x_x.fr 1; have q_x2 := x_x.c2; have f_x2 := x_x.fr 2
        have q_y0 := x_y.c0; have q_y1 := x_y.c1; have f_y0 := x_y.fr 0; have f_y1 := x_y.fr 1; have q_y2 := x_y.c2; have f_y2 := x_y.fr 2
        skip
        with_reducible refine (Binade_yes _ a rfl HL.out.1 HN.out).mono ?_
        rintro e v6 ⟨rfl, hb1⟩
        replace x_x := x_x.keep hb1
        replace x_y := x_y.keep hb1
        replace hT := hT.keep hb1
        replace z_x := z_x.keep hb1
        replace z_y := z_y.keep hb1
        replace hb := bthen hb hb1
        clear hb1
        replace q_x0 := x_x.c0; replace q_x1 := x_x.c1; replace f_x0 := x_x.fr 0; replace f_x1 := x_x.fr 1; replace q_x2 := x_x.c2; replace f_x2 := x_x.fr 2
        replace q_y0 := x_y.c0; replace q_y1 := x_y.c1; replace f_y0 := x_y.fr 0; replace f_y1 := x_y.fr 1; replace q_y2 := x_y.c2; replace f_y2 := x_y.fr 2
        go_wp2_with fail
        with_reducible refine (Value_any _ z1 rfl HK.out.2 hT HK.out.1).mono ?_
        rintro e v7 ⟨A3, n3, c3, rfl, z_z, hb1⟩
        replace x_x := x_x.keep hb1
        replace x_y := x_y.keep hb1
        replace hT := hT.keep hb1
        replace z_x := z_x.keep hb1
        replace z_y := z_y.keep hb1
        replace hb := bthen hb hb1
        clear hb1
        replace q_x0 := x_x.c0; replace q_x1 := x_x.c1; replace f_x0 := x_x.fr 0; replace f_x1 := x_x.fr 1; replace q_x2 := x_x.c2; replace f_x2 := x_x.fr 2
        replace q_y0 := x_y.c0; replace q_y1 := x_y.c1; replace f_y0 := x_y.fr 0; replace f_y1 := x_y.fr 1; replace q_y2 := x_y.c2; replace f_y2 := x_y.fr 2
        rw [HU.out.1] at z_z
        rw [HU.out.1, HU.out.2]
        have y_x := (x_x.alloc (.cells #[.bool (ngB U), .slice A3 n3 c3, .int .i64 G] 30)); have yq_x0 := y_x.c0; have yq_x1 := y_x.c1; have yq_x2 := y_x.c2
        have y_y := (x_y.alloc (.cells #[.bool (ngB U), .slice A3 n3 c3, .int .i64 G] 30)); have yq_y0 := y_y.c0; have yq_y1 := y_y.c1; have yq_y2 := y_y.c2
        go_wp2_with fail
        clear y_x yq_x0 yq_x1 yq_x2 y_y yq_y0 yq_y1 yq_y2
        have hb1 := below_alloc v7 (.cells #[.bool (ngB U), .slice A3 n3 c3, .int .i64 G] 30)
        have l_x_z := x_x.lt
        have l_y_z := x_y.lt
        have x_z := Dx.new v7 (ngB U) A3 n3 c3 G
        have e_z : w.heap.size ≤ v7.heap.size := hb.size
        replace x_x := x_x.keep hb1
        replace x_y := x_y.keep hb1
        replace hT := hT.keep hb1
        replace z_x := z_x.keep hb1
        replace z_y := z_y.keep hb1
        replace z_z := z_z.keep hb1
        replace hb := bthen hb hb1
        clear hb1
        replace q_x0 := x_x.c0; replace q_x1 := x_x.c1; replace f_x0 := x_x.fr 0; replace f_x1 := x_x.fr 1; replace q_x2 := x_x.c2; replace f_x2 := x_x.fr 2
        replace q_y0 := x_y.c0; replace q_y1 := x_y.c1; replace f_y0 := x_y.fr 0; replace f_y1 := x_y.fr 1; replace q_y2 := x_y.c2; replace f_y2 := x_y.fr 2
        clear q_x0 q_x1 f_x0 f_x1 q_x2 f_x2 q_y0 q_y1 f_y0 f_y1 q_y2 f_y2
        generalize v7.alloc (.cells #[.bool (ngB U), .slice A3 n3 c3, .int .i64 G] 30) = v8 at *
        have q_x0 := x_x.c0; have q_x1 := x_x.c1; have f_x0 := x_x.fr 0; have f_x1 := x_x.fr 1; have q_x2 := x_x.c2; have f_x2 := x_x.fr 2
        have q_y0 := x_y.c0; have q_y1 := x_y.c1; have f_y0 := x_y.fr 0; have f_y1 := x_y.fr 1; have q_y2 := x_y.c2; have f_y2 := x_y.fr 2
        have q_z0 := x_z.c0; have q_z1 := x_z.c1; have f_z0 := x_z.fr 0; have f_z1 := x_z.fr 1; have q_z2 := x_z.c2; have f_z2 := x_z.fr 2
        skip
        with_reducible refine (DSub_any z_z.zr z_x.zr hT 200 (by omega) (by omega) (by omega)).mono ?_
        rintro e v9 ⟨A4, n4, c4, rfl, z_s, hb1⟩
        replace x_x := x_x.keep hb1
        replace x_y := x_y.keep hb1
        replace x_z := x_z.keep hb1
        replace hT := hT.keep hb1
        replace z_x := z_x.keep hb1
        replace z_y := z_y.keep hb1
        replace z_z := z_z.keep hb1
        replace hb := bthen hb hb1
        clear hb1
        replace q_x0 := x_x.c0; replace q_x1 := x_x.c1; replace f_x0 := x_x.fr 0; replace f_x1 := x_x.fr 1; replace q_x2 := x_x.c2; replace f_x2 := x_x.fr 2
        replace q_y0 := x_y.c0; replace q_y1 := x_y.c1; replace f_y0 := x_y.fr 0; replace f_y1 := x_y.fr 1; replace q_y2 := x_y.c2; replace f_y2 := x_y.fr 2
        replace q_z0 := x_z.c0; replace q_z1 := x_z.c1; replace f_z0 := x_z.fr 0; replace f_z1 := x_z.fr 1; replace q_z2 := x_z.c2; replace f_z2 := x_z.fr 2
        rw [HST.out.1] at z_s
        rw [HST.out.1, HST.out.2]
        have y_x := (x_x.alloc (.cells #[.bool (ngB 1), .slice A4 n4 c4, .int .i64 (exN a)] 30)); have yq_x0 := y_x.c0; have yq_x1 := y_x.c1; have yq_x2 := y_x.c2
        have y_y := (x_y.alloc (.cells #[.bool (ngB 1), .slice A4 n4 c4, .int .i64 (exN a)] 30)); have yq_y0 := y_y.c0; have yq_y1 := y_y.c1; have yq_y2 := y_y.c2
        have y_z := (x_z.alloc (.cells #[.bool (ngB 1), .slice A4 n4 c4, .int .i64 (exN a)] 30)); have yq_z0 := y_z.c0; have yq_z1 := y_z.c1; have yq_z2 := y_z.c2
        go_wp2_with fail
        clear y_x yq_x0 yq_x1 yq_x2 y_y yq_y0 yq_y1 yq_y2 y_z yq_z0 yq_z1 yq_z2
        have hb1 := below_alloc v9 (.cells #[.bool (ngB 1), .slice A4 n4 c4, .int .i64 (exN a)] 30)
        have l_x_s := x_x.lt
        have l_y_s := x_y.lt
        have l_z_s := x_z.lt
        have x_s := Dx.new v9 (ngB 1) A4 n4 c4 (exN a)
        have e_s : w.heap.size ≤ v9.heap.size := hb.size
        replace x_x := x_x.keep hb1
        replace x_y := x_y.keep hb1
        replace x_z := x_z.keep hb1
        replace hT := hT.keep hb1
        replace z_x := z_x.keep hb1
        replace z_y := z_y.keep hb1
        replace z_z := z_z.keep hb1
        replace z_s := z_s.keep hb1
        replace hb := bthen hb hb1
        clear hb1
        replace q_x0 := x_x.c0; replace q_x1 := x_x.c1; replace f_x0 := x_x.fr 0; replace f_x1 := x_x.fr 1; replace q_x2 := x_x.c2; replace f_x2 := x_x.fr 2
        replace q_y0 := x_y.c0; replace q_y1 := x_y.c1; replace f_y0 := x_y.fr 0; replace f_y1 := x_y.fr 1; replace q_y2 := x_y.c2; replace f_y2 := x_y.fr 2
        replace q_z0 := x_z.c0; replace q_z1 := x_z.c1; replace f_z0 := x_z.fr 0; replace f_z1 := x_z.fr 1; replace q_z2 := x_z.c2; replace f_z2 := x_z.fr 2
        clear q_x0 q_x1 f_x0 f_x1 q_x2 f_x2 q_y0 q_y1 f_y0 f_y1 q_y2 f_y2 q_z0 q_z1 f_z0 f_z1 q_z2 f_z2
        generalize v9.alloc (.cells #[.bool (ngB 1), .slice A4 n4 c4, .int .i64 (exN a)] 30) = v10 at *
        have q_x0 := x_x.c0; have q_x1 := x_x.c1; have f_x0 := x_x.fr 0; have f_x1 := x_x.fr 1; have q_x2 := x_x.c2; have f_x2 := x_x.fr 2
        have q_y0 := x_y.c0; have q_y1 := x_y.c1; have f_y0 := x_y.fr 0; have f_y1 := x_y.fr 1; have q_y2 := x_y.c2; have f_y2 := x_y.fr 2
        have q_z0 := x_z.c0; have q_z1 := x_z.c1; have f_z0 := x_z.fr 0; have f_z1 := x_z.fr 1; have q_z2 := x_z.c2; have f_z2 := x_z.fr 2
        have q_s0 := x_s.c0; have q_s1 := x_s.c1; have f_s0 := x_s.fr 0; have f_s1 := x_s.fr 1; have q_s2 := x_s.c2; have f_s2 := x_s.fr 2
        refine wp_region_held_drew (S := fun w' => w'.cell? ⟨v2.heap.size, 0, none⟩ = some (.bool (ngB Q)) ∧ w'.cell? ⟨v2.heap.size, 1, none⟩ = some (.slice A1 n1 c1) ∧ w'.cell? ⟨v2.heap.size, 2, none⟩ = some (.int .i64 E) ∧ w'.cell? ⟨v4.heap.size, 0, none⟩ = some (.bool (ngB R)) ∧ w'.cell? ⟨v4.heap.size, 1, none⟩ = some (.slice A2 n2 c2) ∧ w'.cell? ⟨v4.heap.size, 2, none⟩ = some (.int .i64 F) ∧ w'.cell? ⟨v9.heap.size, 0, none⟩ = some (.bool (ngB 1)) ∧ w'.cell? ⟨v9.heap.size, 1, none⟩ = some (.slice A4 n4 c4) ∧ w'.cell? ⟨v9.heap.size, 2, none⟩ = some (.int .i64 (exN a))) (by kernel_rfl) (by exact ⟨x_x.c0, x_x.c1, x_x.c2, x_y.c0, x_y.c1, x_y.c2, x_s.c0, x_s.c1, x_s.c2⟩) (fun hHeld => ?_)
        refine wpAnyH_take (i := 0) (oi := ({ dst := some 62, op := Op.move (Operand.tmp 5), type := 4, pos := "law.go:92", after := #[], guard := none } : Oper)) (v := ?_) rfl (by kernel_rfl) (by kernel_rfl) (by kernel_rfl) (fun _ _ _ h => h) (Or.inl ⟨by rfl, ?_⟩) (by assumption) ?_
        rotate_left
        · (intro w9 hSw; (try dsimp only at hSw); go_simp; all_goals with_reducible rfl)
        (try simp only [Act.put, List.setIfInBounds_toArray, List.set_cons_zero, List.set_cons_succ])
        refine wpAnyH_take (i := 1) (oi := ({ dst := some 63, op := Op.move (Operand.tmp 62), type := 4, pos := "law.go:92", after := #[{ on := 0, ground := Ground.data }], guard := none } : Oper)) (v := ?_) rfl (by kernel_rfl) (by kernel_rfl) (by kernel_rfl) (fun _ _ _ h => h) (Or.inl ⟨by rfl, ?_⟩) (by assumption) ?_
        rotate_left
        · (intro w9 hSw; (try dsimp only at hSw); go_simp; all_goals with_reducible rfl)
        (try simp only [Act.put, List.setIfInBounds_toArray, List.set_cons_zero, List.set_cons_succ])
        refine wpAnyH_take (i := 2) (oi := ({ dst := some 64, op := Op.load 30 (Operand.tmp 6), type := 30, pos := "law.go:92", after := #[{ on := 1, ground := Ground.guard }], guard := some (1, true) } : Oper)) (v := ?_) rfl (by kernel_rfl) (by kernel_rfl) (by kernel_rfl) (fun _ _ _ h => h) (Or.inl ⟨by rfl, ?_⟩) (by assumption) ?_
        rotate_left
        · (intro w9 hSw; (try dsimp only at hSw); go_simp; all_goals with_reducible rfl)
        (try simp only [Act.put, List.setIfInBounds_toArray, List.set_cons_zero, List.set_cons_succ])
        refine wpAnyH_take (i := 3) (oi := ({ dst := some 65, op := Op.load 30 (Operand.tmp 8), type := 30, pos := "law.go:92", after := #[{ on := 1, ground := Ground.guard }], guard := some (1, true) } : Oper)) (v := ?_) rfl (by kernel_rfl) (by kernel_rfl) (by kernel_rfl) (fun _ _ _ h => h) (Or.inl ⟨by rfl, ?_⟩) (by assumption) ?_
        rotate_left
        · (intro w9 hSw; (try dsimp only at hSw); go_simp; all_goals with_reducible rfl)
        (try simp only [Act.put, List.setIfInBounds_toArray, List.set_cons_zero, List.set_cons_succ])
        refine wpAnyH_take (i := 5) (oi := ({ dst := some 67, op := Op.move (Operand.tmp 10), type := 3, pos := "law.go:92", after := #[{ on := 1, ground := Ground.guard }], guard := some (1, true) } : Oper)) (v := ?_) rfl (by kernel_rfl) (by kernel_rfl) (by kernel_rfl) (fun _ _ _ h => h) (Or.inl ⟨by rfl, ?_⟩) (by assumption) ?_
        rotate_left
        · (intro w9 hSw; (try dsimp only at hSw); go_simp; all_goals with_reducible rfl)
        (try simp only [Act.put, List.setIfInBounds_toArray, List.set_cons_zero, List.set_cons_succ])
        refine wpAnyH_ready (rs := [4]) (by kernel_rfl) (by simp) ?_
        refine AllReadyH.cons (o := ({ dst := some 66, op := Op.call { callee := Callee.value (Operand.func 20), args := #[Operand.tmp 64, Operand.tmp 65], argTypes := #[30, 30] }, type := 3, pos := "law.go:92", after := #[{ on := 2, ground := Ground.data }, { on := 3, ground := Ground.data }, { on := 1, ground := Ground.chain }, { on := 1, ground := Ground.guard }], guard := some (1, true) } : Oper)) rfl (fun K hK => ?_) AllReadyH.nil
        go_simp
        with_reducible refine (DCmp_any z_x.zr.drw z_y.zr.drw (by omega) (by omega)).mono ?_
        rintro e v11 ⟨rfl, hb1⟩
        replace hb1 := undrew hb1
        replace x_x := x_x.keep hb1
        replace x_y := x_y.keep hb1
        replace x_z := x_z.keep hb1
        replace x_s := x_s.keep hb1
        replace hT := hT.keep hb1
        replace z_x := z_x.keep hb1
        replace z_y := z_y.keep hb1
        replace z_z := z_z.keep hb1
        replace z_s := z_s.keep hb1
        replace hb := bthen hb hb1
        clear hb1
        replace q_x0 := x_x.c0; replace q_x1 := x_x.c1; replace f_x0 := x_x.fr 0; replace f_x1 := x_x.fr 1; replace q_x2 := x_x.c2; replace f_x2 := x_x.fr 2
        replace q_y0 := x_y.c0; replace q_y1 := x_y.c1; replace f_y0 := x_y.fr 0; replace f_y1 := x_y.fr 1; replace q_y2 := x_y.c2; replace f_y2 := x_y.fr 2
        replace q_z0 := x_z.c0; replace q_z1 := x_z.c1; replace f_z0 := x_z.fr 0; replace f_z1 := x_z.fr 1; replace q_z2 := x_z.c2; replace f_z2 := x_z.fr 2
        replace q_s0 := x_s.c0; replace q_s1 := x_s.c1; replace f_s0 := x_s.fr 0; replace f_s1 := x_s.fr 1; replace q_s2 := x_s.c2; replace f_s2 := x_s.fr 2
        rw [HC.out, HG.out]
        (try go_wp2_with fail)
        refine hK.out _ _ (by exact ⟨x_x.c0, x_x.c1, x_x.c2, x_y.c0, x_y.c1, x_y.c2, x_s.c0, x_s.c1, x_s.c2⟩) (fun hHeld => ?_)
        clear hK K
        (try simp only [Act.put, List.setIfInBounds_toArray, List.set_cons_zero, List.set_cons_succ])
        refine wpAnyH_take (i := 6) (oi := ({ dst := some 68, op := Op.binOp BinOp.eql 3 (Operand.tmp 66) (Operand.tmp 67) 3, type := 4, pos := "law.go:92", after := #[{ on := 4, ground := Ground.data }, { on := 5, ground := Ground.data }, { on := 1, ground := Ground.guard }], guard := some (1, true) } : Oper)) (v := ?_) rfl (by kernel_rfl) (by kernel_rfl) (by kernel_rfl) (fun _ _ _ h => h) (Or.inl ⟨by rfl, ?_⟩) (by assumption) ?_
        rotate_left
        · (intro w9 hSw; (try dsimp only at hSw); go_simp; all_goals with_reducible rfl)
        (try simp only [Act.put, List.setIfInBounds_toArray, List.set_cons_zero, List.set_cons_succ])
        refine wpAnyH_take (i := 7) (oi := ({ dst := some 69, op := Op.pick (Operand.tmp 63) (Operand.tmp 68) (Operand.const (Value.bool false)), type := 4, pos := "law.go:92", after := #[{ on := 1, ground := Ground.data }, { on := 6, ground := Ground.data }], guard := none } : Oper)) (v := ?_) rfl (by kernel_rfl) (by kernel_rfl) (by kernel_rfl) (fun _ _ _ h => h) (Or.inl ⟨by rfl, ?_⟩) (by assumption) ?_
        rotate_left
        · (intro w9 hSw; (try dsimp only at hSw); go_simp; all_goals with_reducible rfl)
        (try simp only [Act.put, List.setIfInBounds_toArray, List.set_cons_zero, List.set_cons_succ])
        refine wpAnyH_take (i := 8) (oi := ({ dst := some 70, op := Op.move (Operand.tmp 69), type := 4, pos := "law.go:92", after := #[{ on := 7, ground := Ground.data }, { on := 4, ground := Ground.chain }], guard := none } : Oper)) (v := ?_) rfl (by kernel_rfl) (by kernel_rfl) (by kernel_rfl) (fun _ _ _ h => h) (Or.inl ⟨by rfl, ?_⟩) (by assumption) ?_
        rotate_left
        · (intro w9 hSw; (try dsimp only at hSw); go_simp; all_goals with_reducible rfl)
        (try simp only [Act.put, List.setIfInBounds_toArray, List.set_cons_zero, List.set_cons_succ])
        refine wpAnyH_take (i := 9) (oi := ({ dst := some 71, op := Op.move (Operand.tmp 16), type := 4, pos := "law.go:92", after := #[{ on := 8, ground := Ground.guard }], guard := some (8, true) } : Oper)) (v := ?_) rfl (by kernel_rfl) (by kernel_rfl) (by kernel_rfl) (fun _ _ _ h => h) (Or.inl ⟨by rfl, ?_⟩) (by assumption) ?_
        rotate_left
        · (intro w9 hSw; (try dsimp only at hSw); go_simp; all_goals with_reducible rfl)
        (try simp only [Act.put, List.setIfInBounds_toArray, List.set_cons_zero, List.set_cons_succ])
        refine wpAnyH_take (i := 10) (oi := ({ dst := some 72, op := Op.move (Operand.tmp 71), type := 4, pos := "law.go:92", after := #[{ on := 9, ground := Ground.data }, { on := 8, ground := Ground.chain }, { on := 8, ground := Ground.guard }], guard := some (8, true) } : Oper)) (v := ?_) rfl (by kernel_rfl) (by kernel_rfl) (by kernel_rfl) (fun _ _ _ h => h) (Or.inl ⟨by rfl, ?_⟩) (by assumption) ?_
        rotate_left
        · (intro w9 hSw; (try dsimp only at hSw); go_simp; all_goals with_reducible rfl)
        (try simp only [Act.put, List.setIfInBounds_toArray, List.set_cons_zero, List.set_cons_succ])
        refine wpAnyH_take (i := 11) (oi := ({ dst := some 73, op := Op.move (Operand.tmp 14), type := 31, pos := "law.go:92", after := #[{ on := 10, ground := Ground.guard }], guard := some (10, true) } : Oper)) (v := undef) rfl (by kernel_rfl) (by kernel_rfl) (by kernel_rfl) (fun _ _ _ h => h) (Or.inr ⟨by rfl, rfl⟩) (by assumption) ?_
        (try simp only [Act.put, List.setIfInBounds_toArray, List.set_cons_zero, List.set_cons_succ])
        refine wpAnyH_take (i := 12) (oi := ({ dst := some 74, op := Op.binOp BinOp.eql 31 (Operand.tmp 73) (Operand.const (Value.int IntKind.i64 1)) 31, type := 4, pos := "law.go:92", after := #[{ on := 11, ground := Ground.data }, { on := 10, ground := Ground.guard }], guard := some (10, true) } : Oper)) (v := undef) rfl (by kernel_rfl) (by kernel_rfl) (by kernel_rfl) (fun _ _ _ h => h) (Or.inr ⟨by rfl, rfl⟩) (by assumption) ?_
        (try simp only [Act.put, List.setIfInBounds_toArray, List.set_cons_zero, List.set_cons_succ])
        refine wpAnyH_take (i := 13) (oi := ({ dst := some 75, op := Op.pick (Operand.tmp 72) (Operand.tmp 74) (Operand.const (Value.bool false)), type := 4, pos := "law.go:92", after := #[{ on := 10, ground := Ground.data }, { on := 12, ground := Ground.data }, { on := 8, ground := Ground.guard }], guard := some (8, true) } : Oper)) (v := ?_) rfl (by kernel_rfl) (by kernel_rfl) (by kernel_rfl) (fun _ _ _ h => h) (Or.inl ⟨by rfl, ?_⟩) (by assumption) ?_
        rotate_left
        · (intro w9 hSw; (try dsimp only at hSw); go_simp; all_goals with_reducible rfl)
        (try simp only [Act.put, List.setIfInBounds_toArray, List.set_cons_zero, List.set_cons_succ])
        refine wpAnyH_take (i := 14) (oi := ({ dst := some 76, op := Op.move (Operand.tmp 75), type := 4, pos := "law.go:92", after := #[{ on := 13, ground := Ground.data }, { on := 10, ground := Ground.chain }, { on := 8, ground := Ground.guard }], guard := some (8, true) } : Oper)) (v := ?_) rfl (by kernel_rfl) (by kernel_rfl) (by kernel_rfl) (fun _ _ _ h => h) (Or.inl ⟨by rfl, ?_⟩) (by assumption) ?_
        rotate_left
        · (intro w9 hSw; (try dsimp only at hSw); go_simp; all_goals with_reducible rfl)
        (try simp only [Act.put, List.setIfInBounds_toArray, List.set_cons_zero, List.set_cons_succ])
        refine wpAnyH_take (i := 15) (oi := ({ dst := some 77, op := Op.move (Operand.tmp 16), type := 4, pos := "law.go:92", after := #[{ on := 14, ground := Ground.guard }], guard := some (14, false) } : Oper)) (v := ?_) rfl (by kernel_rfl) (by kernel_rfl) (by kernel_rfl) (fun _ _ _ h => h) (Or.inl ⟨by rfl, ?_⟩) (by assumption) ?_
        rotate_left
        · (intro w9 hSw; (try dsimp only at hSw); go_simp; all_goals with_reducible rfl)
        (try simp only [Act.put, List.setIfInBounds_toArray, List.set_cons_zero, List.set_cons_succ])
        refine wpAnyH_take (i := 16) (oi := ({ dst := some 78, op := Op.unOp UnOp.not 4 (Operand.tmp 77), type := 4, pos := "law.go:92", after := #[{ on := 15, ground := Ground.data }, { on := 14, ground := Ground.guard }], guard := some (14, false) } : Oper)) (v := ?_) rfl (by kernel_rfl) (by kernel_rfl) (by kernel_rfl) (fun _ _ _ h => h) (Or.inl ⟨by rfl, ?_⟩) (by assumption) ?_
        rotate_left
        · (intro w9 hSw; (try dsimp only at hSw); go_simp; all_goals with_reducible rfl)
        (try simp only [Act.put, List.setIfInBounds_toArray, List.set_cons_zero, List.set_cons_succ])
        refine wpAnyH_take (i := 17) (oi := ({ dst := some 79, op := Op.move (Operand.tmp 78), type := 4, pos := "law.go:92", after := #[{ on := 16, ground := Ground.data }, { on := 14, ground := Ground.chain }, { on := 14, ground := Ground.guard }], guard := some (14, false) } : Oper)) (v := ?_) rfl (by kernel_rfl) (by kernel_rfl) (by kernel_rfl) (fun _ _ _ h => h) (Or.inl ⟨by rfl, ?_⟩) (by assumption) ?_
        rotate_left
        · (intro w9 hSw; (try dsimp only at hSw); go_simp; all_goals with_reducible rfl)
        (try simp only [Act.put, List.setIfInBounds_toArray, List.set_cons_zero, List.set_cons_succ])
        refine wpAnyH_take (i := 18) (oi := ({ dst := some 80, op := Op.load 30 (Operand.tmp 15), type := 30, pos := "law.go:92", after := #[{ on := 17, ground := Ground.guard }], guard := some (17, true) } : Oper)) (v := ?_) rfl (by kernel_rfl) (by kernel_rfl) (by kernel_rfl) (fun _ _ _ h => h) (Or.inl ⟨by rfl, ?_⟩) (by assumption) ?_
        rotate_left
        · (intro w9 hSw; (try dsimp only at hSw); go_simp; all_goals with_reducible rfl)
        (try simp only [Act.put, List.setIfInBounds_toArray, List.set_cons_zero, List.set_cons_succ])
        refine wpAnyH_take (i := 20) (oi := ({ dst := some 82, op := Op.move (Operand.tmp 11), type := 3, pos := "law.go:92", after := #[{ on := 17, ground := Ground.guard }], guard := some (17, true) } : Oper)) (v := ?_) rfl (by kernel_rfl) (by kernel_rfl) (by kernel_rfl) (fun _ _ _ h => h) (Or.inl ⟨by rfl, ?_⟩) (by assumption) ?_
        rotate_left
        · (intro w9 hSw; (try dsimp only at hSw); go_simp; all_goals with_reducible rfl)
        (try simp only [Act.put, List.setIfInBounds_toArray, List.set_cons_zero, List.set_cons_succ])
        refine wpAnyH_take (i := 21) (oi := ({ dst := some 83, op := Op.binOp BinOp.sub 3 (Operand.tmp 82) (Operand.const (Value.int IntKind.i64 52)) 3, type := 3, pos := "law.go:92", after := #[{ on := 20, ground := Ground.data }, { on := 17, ground := Ground.guard }], guard := some (17, true) } : Oper)) (v := ?_) rfl (by kernel_rfl) (by kernel_rfl) (by kernel_rfl) (fun _ _ _ h => h) (Or.inl ⟨by rfl, ?_⟩) (by assumption) ?_
        rotate_left
        · (intro w9 hSw; (try dsimp only at hSw); go_simp; all_goals with_reducible rfl)
        (try simp only [Act.put, List.setIfInBounds_toArray, List.set_cons_zero, List.set_cons_succ])
        refine wpAnyH_ready (rs := [19]) (by kernel_rfl) (by simp) ?_
        refine AllReadyH.cons (o := ({ dst := some 81, op := Op.call { callee := Callee.value (Operand.func 22), args := #[Operand.const (Value.int IntKind.i64 1)], argTypes := #[2] }, type := 28, pos := "law.go:92", after := #[{ on := 17, ground := Ground.chain }, { on := 17, ground := Ground.guard }], guard := some (17, true) } : Oper)) rfl (fun K hK => ?_) AllReadyH.nil
        go_simp
        with_reducible refine (ZOf_any 1 (by omega) (by omega)).mono ?_
        rintro e v12 ⟨A5, n5, c5, rfl, za, hb1⟩
        replace x_x := x_x.keep hb1
        replace x_y := x_y.keep hb1
        replace x_z := x_z.keep hb1
        replace x_s := x_s.keep hb1
        replace hT := hT.keep hb1
        replace z_x := z_x.keep hb1
        replace z_y := z_y.keep hb1
        replace z_z := z_z.keep hb1
        replace z_s := z_s.keep hb1
        replace hb := bthen hb hb1
        clear hb1
        replace q_x0 := x_x.c0; replace q_x1 := x_x.c1; replace f_x0 := x_x.fr 0; replace f_x1 := x_x.fr 1; replace q_x2 := x_x.c2; replace f_x2 := x_x.fr 2
        replace q_y0 := x_y.c0; replace q_y1 := x_y.c1; replace f_y0 := x_y.fr 0; replace f_y1 := x_y.fr 1; replace q_y2 := x_y.c2; replace f_y2 := x_y.fr 2
        replace q_z0 := x_z.c0; replace q_z1 := x_z.c1; replace f_z0 := x_z.fr 0; replace f_z1 := x_z.fr 1; replace q_z2 := x_z.c2; replace f_z2 := x_z.fr 2
        replace q_s0 := x_s.c0; replace q_s1 := x_s.c1; replace f_s0 := x_s.fr 0; replace f_s1 := x_s.fr 1; replace q_s2 := x_s.c2; replace f_s2 := x_s.fr 2
        (try go_wp2_with fail)
        refine hK.out _ _ (by exact ⟨x_x.c0, x_x.c1, x_x.c2, x_y.c0, x_y.c1, x_y.c2, x_s.c0, x_s.c1, x_s.c2⟩) (fun hHeld => ?_)
        clear hK K
        (try simp only [Act.put, List.setIfInBounds_toArray, List.set_cons_zero, List.set_cons_succ])
        refine wpAnyH_ready (rs := [22]) (by kernel_rfl) (by simp) ?_
        refine AllReadyH.cons (o := ({ dst := some 84, op := Op.call { callee := Callee.value (Operand.func 21), args := #[Operand.tmp 81, Operand.tmp 83], argTypes := #[28, 3] }, type := 30, pos := "law.go:92", after := #[{ on := 19, ground := Ground.data }, { on := 21, ground := Ground.data }, { on := 19, ground := Ground.chain }, { on := 17, ground := Ground.guard }], guard := some (17, true) } : Oper)) rfl (fun K hK => ?_) AllReadyH.nil
        go_simp
        with_reducible refine (DOf_any za.zr hT 2 (by omega) (by omega)).mono ?_
        rintro e v13 ⟨A6, n6, c6, rfl, zb, hb1⟩
        replace x_x := x_x.keep hb1
        replace x_y := x_y.keep hb1
        replace x_z := x_z.keep hb1
        replace x_s := x_s.keep hb1
        replace hT := hT.keep hb1
        replace z_x := z_x.keep hb1
        replace z_y := z_y.keep hb1
        replace z_z := z_z.keep hb1
        replace z_s := z_s.keep hb1
        replace za := za.keep hb1
        replace hb := bthen hb hb1
        clear hb1
        replace q_x0 := x_x.c0; replace q_x1 := x_x.c1; replace f_x0 := x_x.fr 0; replace f_x1 := x_x.fr 1; replace q_x2 := x_x.c2; replace f_x2 := x_x.fr 2
        replace q_y0 := x_y.c0; replace q_y1 := x_y.c1; replace f_y0 := x_y.fr 0; replace f_y1 := x_y.fr 1; replace q_y2 := x_y.c2; replace f_y2 := x_y.fr 2
        replace q_z0 := x_z.c0; replace q_z1 := x_z.c1; replace f_z0 := x_z.fr 0; replace f_z1 := x_z.fr 1; replace q_z2 := x_z.c2; replace f_z2 := x_z.fr 2
        replace q_s0 := x_s.c0; replace q_s1 := x_s.c1; replace f_s0 := x_s.fr 0; replace f_s1 := x_s.fr 1; replace q_s2 := x_s.c2; replace f_s2 := x_s.fr 2
        rw [HOF.out.1] at zb
        rw [HOF.out.1, HOF.out.2]
        (try go_wp2_with fail)
        refine hK.out _ _ (by exact ⟨x_x.c0, x_x.c1, x_x.c2, x_y.c0, x_y.c1, x_y.c2, x_s.c0, x_s.c1, x_s.c2⟩) (fun hHeld => ?_)
        clear hK K
        (try simp only [Act.put, List.setIfInBounds_toArray, List.set_cons_zero, List.set_cons_succ])
        refine wpAnyH_ready (rs := [23]) (by kernel_rfl) (by simp) ?_
        refine AllReadyH.cons (o := ({ dst := some 85, op := Op.call { callee := Callee.value (Operand.func 20), args := #[Operand.tmp 80, Operand.tmp 84], argTypes := #[30, 30] }, type := 3, pos := "law.go:92", after := #[{ on := 18, ground := Ground.data }, { on := 22, ground := Ground.data }, { on := 22, ground := Ground.chain }, { on := 17, ground := Ground.guard }], guard := some (17, true) } : Oper)) rfl (fun K hK => ?_) AllReadyH.nil
        go_simp
        with_reducible refine (DCmp_any z_s.zr zb.zr (by omega) (by omega)).mono ?_
        rintro e v14 ⟨rfl, hb1⟩
        replace x_x := x_x.keep hb1
        replace x_y := x_y.keep hb1
        replace x_z := x_z.keep hb1
        replace x_s := x_s.keep hb1
        replace hT := hT.keep hb1
        replace z_x := z_x.keep hb1
        replace z_y := z_y.keep hb1
        replace z_z := z_z.keep hb1
        replace z_s := z_s.keep hb1
        replace za := za.keep hb1
        replace zb := zb.keep hb1
        replace hb := bthen hb hb1
        clear hb1
        replace q_x0 := x_x.c0; replace q_x1 := x_x.c1; replace f_x0 := x_x.fr 0; replace f_x1 := x_x.fr 1; replace q_x2 := x_x.c2; replace f_x2 := x_x.fr 2
        replace q_y0 := x_y.c0; replace q_y1 := x_y.c1; replace f_y0 := x_y.fr 0; replace f_y1 := x_y.fr 1; replace q_y2 := x_y.c2; replace f_y2 := x_y.fr 2
        replace q_z0 := x_z.c0; replace q_z1 := x_z.c1; replace f_z0 := x_z.fr 0; replace f_z1 := x_z.fr 1; replace q_z2 := x_z.c2; replace f_z2 := x_z.fr 2
        replace q_s0 := x_s.c0; replace q_s1 := x_s.c1; replace f_s0 := x_s.fr 0; replace f_s1 := x_s.fr 1; replace q_s2 := x_s.c2; replace f_s2 := x_s.fr 2
        rw [HC0.out]
        (try go_wp2_with fail)
        refine hK.out _ _ (by exact ⟨x_x.c0, x_x.c1, x_x.c2, x_y.c0, x_y.c1, x_y.c2, x_s.c0, x_s.c1, x_s.c2⟩) (fun hHeld => ?_)
        clear hK K
        (try simp only [Act.put, List.setIfInBounds_toArray, List.set_cons_zero, List.set_cons_succ])
        refine wpAnyH_take (i := 24) (oi := ({ dst := some 86, op := Op.binOp BinOp.eql 3 (Operand.tmp 85) (Operand.const (Value.int IntKind.i64 0)) 3, type := 4, pos := "law.go:92", after := #[{ on := 23, ground := Ground.data }, { on := 17, ground := Ground.guard }], guard := some (17, true) } : Oper)) (v := ?_) rfl (by kernel_rfl) (by kernel_rfl) (by kernel_rfl) (fun _ _ _ h => h) (Or.inl ⟨by rfl, ?_⟩) (by assumption) ?_
        rotate_left
        · (intro w9 hSw; (try dsimp only at hSw); go_simp; all_goals with_reducible rfl)
        (try simp only [Act.put, List.setIfInBounds_toArray, List.set_cons_zero, List.set_cons_succ])
        refine wpAnyH_take (i := 25) (oi := ({ dst := some 87, op := Op.pick (Operand.tmp 79) (Operand.tmp 86) (Operand.const (Value.bool false)), type := 4, pos := "law.go:92", after := #[{ on := 17, ground := Ground.data }, { on := 24, ground := Ground.data }, { on := 14, ground := Ground.guard }], guard := some (14, false) } : Oper)) (v := ?_) rfl (by kernel_rfl) (by kernel_rfl) (by kernel_rfl) (fun _ _ _ h => h) (Or.inl ⟨by rfl, ?_⟩) (by assumption) ?_
        rotate_left
        · (intro w9 hSw; (try dsimp only at hSw); go_simp; all_goals with_reducible rfl)
        (try simp only [Act.put, List.setIfInBounds_toArray, List.set_cons_zero, List.set_cons_succ])
        refine wpAnyH_take (i := 26) (oi := ({ dst := some 88, op := Op.pick (Operand.tmp 76) (Operand.const (Value.bool true)) (Operand.tmp 87), type := 4, pos := "law.go:92", after := #[{ on := 14, ground := Ground.data }, { on := 25, ground := Ground.data }, { on := 8, ground := Ground.guard }], guard := some (8, true) } : Oper)) (v := ?_) rfl (by kernel_rfl) (by kernel_rfl) (by kernel_rfl) (fun _ _ _ h => h) (Or.inl ⟨by rfl, ?_⟩) (by assumption) ?_
        rotate_left
        · (intro w9 hSw; (try dsimp only at hSw); go_simp; all_goals with_reducible rfl)
        (try simp only [Act.put, List.setIfInBounds_toArray, List.set_cons_zero, List.set_cons_succ])
        refine wpAnyH_take (i := 27) (oi := ({ dst := some 89, op := Op.pick (Operand.tmp 70) (Operand.tmp 88) (Operand.const (Value.bool false)), type := 4, pos := "law.go:92", after := #[{ on := 8, ground := Ground.data }, { on := 26, ground := Ground.data }], guard := none } : Oper)) (v := ?_) rfl (by kernel_rfl) (by kernel_rfl) (by kernel_rfl) (fun _ _ _ h => h) (Or.inl ⟨by rfl, ?_⟩) (by assumption) ?_
        rotate_left
        · (intro w9 hSw; (try dsimp only at hSw); go_simp; all_goals with_reducible rfl)
        (try simp only [Act.put, List.setIfInBounds_toArray, List.set_cons_zero, List.set_cons_succ])
        refine wpAnyH_take (i := 28) (oi := ({ dst := some 4, op := Op.assign (Operand.tmp 89), type := 4, pos := "law.go:92", after := #[{ on := 27, ground := Ground.data }, { on := 23, ground := Ground.chain }, { on := 0, ground := Ground.phase }, { on := 1, ground := Ground.phase }, { on := 2, ground := Ground.phase }, { on := 3, ground := Ground.phase }, { on := 4, ground := Ground.phase }, { on := 5, ground := Ground.phase }, { on := 6, ground := Ground.phase }, { on := 7, ground := Ground.phase }, { on := 8, ground := Ground.phase }, { on := 9, ground := Ground.phase }, { on := 10, ground := Ground.phase }, { on := 11, ground := Ground.phase }, { on := 12, ground := Ground.phase }, { on := 13, ground := Ground.phase }, { on := 14, ground := Ground.phase }, { on := 15, ground := Ground.phase }, { on := 16, ground := Ground.phase }, { on := 17, ground := Ground.phase }, { on := 18, ground := Ground.phase }, { on := 19, ground := Ground.phase }, { on := 20, ground := Ground.phase }, { on := 21, ground := Ground.phase }, { on := 22, ground := Ground.phase }, { on := 23, ground := Ground.phase }, { on := 24, ground := Ground.phase }, { on := 25, ground := Ground.phase }, { on := 26, ground := Ground.phase }, { on := 27, ground := Ground.phase }], guard := none } : Oper)) (v := ?_) rfl (by kernel_rfl) (by kernel_rfl) (by kernel_rfl) (fun _ _ _ h => h) (Or.inl ⟨by rfl, ?_⟩) (by assumption) ?_
        rotate_left
        · (intro w9 hSw; (try dsimp only at hSw); go_simp; all_goals with_reducible rfl)
        (try simp only [Act.put, List.setIfInBounds_toArray, List.set_cons_zero, List.set_cons_succ])
        refine wpAnyH_done (by kernel_rfl) ?_ _
        go_wp2
        go_ret
        exact ⟨rfl, hb⟩
  · have hzz : z1 = 9218868437227405312 := by omega
    have hfz : fdN z1 = 2047 ∧ z1 < 18446744073709551616 := by subst hzz; exact ⟨rfl, by omega⟩
    have hla : ((a : Int) == 9218868437227405311) = true := by rw [beq_iff_eq]; omega
    have hn : nmN a = true := by
      have haa : a = 9218868437227405311 := by omega
      rw [haa]; rfl
    have HN := Lib.hid hn; have HK := Lib.hid hfz
    clear hn hfz hzz i1 i2 i3 j1 j2 ha hbl hz hz1 hex
    rcases Nat.lt_trichotomy a b with hl | hl | hl
    · have hg := hcm.1 hl
      have HG := Lib.hid hg; clear hg hcm
      have hb := Below.refl w.heap.size w
      go_enter Tryd.func5, Tryd.ntmps5
      go_wp2_with fail
      with_reducible refine (Bshown_any hT).mono ?_
      rintro e v1 ⟨rfl, hb1⟩
      replace hT := hT.keep hb1
      replace hb := bthen hb hb1
      clear hb1
      go_wp2_with fail
      with_reducible refine (Value_any _ a rfl HL.out.1 hT HF.out.1).mono ?_
      rintro e v2 ⟨A1, n1, c1, rfl, z_x, hb1⟩
      replace hT := hT.keep hb1
      replace hb := bthen hb hb1
      clear hb1
      rw [HQ.out.1] at z_x
      rw [HQ.out.1, HQ.out.2]
      go_wp2_with fail
      have hb1 := below_alloc v2 (.cells #[.bool (ngB Q), .slice A1 n1 c1, .int .i64 E] 30)
      have x_x := Dx.new v2 (ngB Q) A1 n1 c1 E
      have e_x : w.heap.size ≤ v2.heap.size := hb.size
      replace hT := hT.keep hb1
      replace z_x := z_x.keep hb1
      replace hb := bthen hb hb1
      clear hb1
      generalize v2.alloc (.cells #[.bool (ngB Q), .slice A1 n1 c1, .int .i64 E] 30) = v3 at *
      have q_x0 := x_x.c0; have q_x1 := x_x.c1; have f_x0 := x_x.fr 0; have f_x1 := x_x.fr 1; have q_x2 := x_x.c2; have f_x2 := x_x.fr 2
      skip
      with_reducible refine (Value_any _ b rfl HL.out.2 hT HF.out.2).mono ?_
      rintro e v4 ⟨A2, n2, c2, rfl, z_y, hb1⟩
      replace x_x := x_x.keep hb1
      replace hT := hT.keep hb1
      replace z_x := z_x.keep hb1
      replace hb := bthen hb hb1
      clear hb1
      replace q_x0 := x_x.c0; replace q_x1 := x_x.c1; replace f_x0 := x_x.fr 0; replace f_x1 := x_x.fr 1; replace q_x2 := x_x.c2; replace f_x2 := x_x.fr 2
      rw [HR.out.1] at z_y
      rw [HR.out.1, HR.out.2]
      have y_x := (x_x.alloc (.cells #[.bool (ngB R), .slice A2 n2 c2, .int .i64 F] 30)); have yq_x0 := y_x.c0; have yq_x1 := y_x.c1; have yq_x2 := y_x.c2
      go_wp2_with fail
      clear y_x yq_x0 yq_x1 yq_x2
      have hb1 := below_alloc v4 (.cells #[.bool (ngB R), .slice A2 n2 c2, .int .i64 F] 30)
      have l_x_y := x_x.lt
      have x_y := Dx.new v4 (ngB R) A2 n2 c2 F
      have e_y : w.heap.size ≤ v4.heap.size := hb.size
      replace x_x := x_x.keep hb1
      replace hT := hT.keep hb1
      replace z_x := z_x.keep hb1
      replace z_y := z_y.keep hb1
      replace hb := bthen hb hb1
      clear hb1
      replace q_x0 := x_x.c0; replace q_x1 := x_x.c1; replace f_x0 := x_x.fr 0; replace f_x1 := x_x.fr 1; replace q_x2 := x_x.c2; replace f_x2 := x_x.fr 2
      clear q_x0 q_x1 f_x0 f_x1 q_x2 f_x2
      generalize v4.alloc (.cells #[.bool (ngB R), .slice A2 n2 c2, .int .i64 F] 30) = v5 at *
      have q_x0 := x_x.c0; have q_x1 := x_x.c1; have f_x0 := x_x.fr 0; have f_x1 := x_x.fr 1; have q_x2 := x_x.c2; have f_x2 := x_x.fr 2
      have q_y0 := x_y.c0; have q_y1 := x_y.c1; have f_y0 := x_y.fr 0; have f_y1 := x_y.fr 1; have q_y2 := x_y.c2; have f_y2 := x_y.fr 2
      skip
      with_reducible refine (Binade_yes _ a rfl HL.out.1 HN.out).mono ?_
      rintro e v6 ⟨rfl, hb1⟩
      replace x_x := x_x.keep hb1
      replace x_y := x_y.keep hb1
      replace hT := hT.keep hb1
      replace z_x := z_x.keep hb1
      replace z_y := z_y.keep hb1
      replace hb := bthen hb hb1
      clear hb1
      replace q_x0 := x_x.c0; replace q_x1 := x_x.c1; replace f_x0 := x_x.fr 0; replace f_x1 := x_x.fr 1; replace q_x2 := x_x.c2; replace f_x2 := x_x.fr 2
      replace q_y0 := x_y.c0; replace q_y1 := x_y.c1; replace f_y0 := x_y.fr 0; replace f_y1 := x_y.fr 1; replace q_y2 := x_y.c2; replace f_y2 := x_y.fr 2
      go_wp2_with fail
      with_reducible refine (Value_none _ z1 rfl HK.out.2 HK.out.1).mono ?_
      rintro e v7 ⟨rfl, hb1⟩
      replace x_x := x_x.keep hb1
      replace x_y := x_y.keep hb1
      replace hT := hT.keep hb1
      replace z_x := z_x.keep hb1
      replace z_y := z_y.keep hb1
      replace hb := bthen hb hb1
      clear hb1
      replace q_x0 := x_x.c0; replace q_x1 := x_x.c1; replace f_x0 := x_x.fr 0; replace f_x1 := x_x.fr 1; replace q_x2 := x_x.c2; replace f_x2 := x_x.fr 2
      replace q_y0 := x_y.c0; replace q_y1 := x_y.c1; replace f_y0 := x_y.fr 0; replace f_y1 := x_y.fr 1; replace q_y2 := x_y.c2; replace f_y2 := x_y.fr 2
      have y_x := (x_x.alloc (.cells #[.bool false, .slice none 0 0, .int .i64 0] 30)); have yq_x0 := y_x.c0; have yq_x1 := y_x.c1; have yq_x2 := y_x.c2
      have y_y := (x_y.alloc (.cells #[.bool false, .slice none 0 0, .int .i64 0] 30)); have yq_y0 := y_y.c0; have yq_y1 := y_y.c1; have yq_y2 := y_y.c2
      go_wp2_with fail
      clear y_x yq_x0 yq_x1 yq_x2 y_y yq_y0 yq_y1 yq_y2
      have hb1 := below_alloc v7 (.cells #[.bool false, .slice none 0 0, .int .i64 0] 30)
      have l_x_z := x_x.lt
      have l_y_z := x_y.lt
      have x_z := Dx.new v7 false none 0 0 0
      have e_z : w.heap.size ≤ v7.heap.size := hb.size
      replace x_x := x_x.keep hb1
      replace x_y := x_y.keep hb1
      replace hT := hT.keep hb1
      replace z_x := z_x.keep hb1
      replace z_y := z_y.keep hb1
      replace hb := bthen hb hb1
      clear hb1
      replace q_x0 := x_x.c0; replace q_x1 := x_x.c1; replace f_x0 := x_x.fr 0; replace f_x1 := x_x.fr 1; replace q_x2 := x_x.c2; replace f_x2 := x_x.fr 2
      replace q_y0 := x_y.c0; replace q_y1 := x_y.c1; replace f_y0 := x_y.fr 0; replace f_y1 := x_y.fr 1; replace q_y2 := x_y.c2; replace f_y2 := x_y.fr 2
      clear q_x0 q_x1 f_x0 f_x1 q_x2 f_x2 q_y0 q_y1 f_y0 f_y1 q_y2 f_y2
      generalize v7.alloc (.cells #[.bool false, .slice none 0 0, .int .i64 0] 30) = v8 at *
      have q_x0 := x_x.c0; have q_x1 := x_x.c1; have f_x0 := x_x.fr 0; have f_x1 := x_x.fr 1; have q_x2 := x_x.c2; have f_x2 := x_x.fr 2
      have q_y0 := x_y.c0; have q_y1 := x_y.c1; have f_y0 := x_y.fr 0; have f_y1 := x_y.fr 1; have q_y2 := x_y.c2; have f_y2 := x_y.fr 2
      have q_z0 := x_z.c0; have q_z1 := x_z.c1; have f_z0 := x_z.fr 0; have f_z1 := x_z.fr 1; have q_z2 := x_z.c2; have f_z2 := x_z.fr 2
      skip
      with_reducible refine (DSub_any (Zr.zero _) z_x.zr hT 200 (by omega) (by omega) (by omega)).mono ?_
      rintro e v9 ⟨A4, n4, c4, rfl, z_s, hb1⟩
      replace x_x := x_x.keep hb1
      replace x_y := x_y.keep hb1
      replace x_z := x_z.keep hb1
      replace hT := hT.keep hb1
      replace z_x := z_x.keep hb1
      replace z_y := z_y.keep hb1
      replace hb := bthen hb hb1
      clear hb1
      replace q_x0 := x_x.c0; replace q_x1 := x_x.c1; replace f_x0 := x_x.fr 0; replace f_x1 := x_x.fr 1; replace q_x2 := x_x.c2; replace f_x2 := x_x.fr 2
      replace q_y0 := x_y.c0; replace q_y1 := x_y.c1; replace f_y0 := x_y.fr 0; replace f_y1 := x_y.fr 1; replace q_y2 := x_y.c2; replace f_y2 := x_y.fr 2
      replace q_z0 := x_z.c0; replace q_z1 := x_z.c1; replace f_z0 := x_z.fr 0; replace f_z1 := x_z.fr 1; replace q_z2 := x_z.c2; replace f_z2 := x_z.fr 2
      generalize od (alP 0 0 E - alQ Q 0 E) = SX at *
      generalize nE (alP 0 0 E - alQ Q 0 E) (alE 0 E) = SE at *
      have y_x := (x_x.alloc (.cells #[.bool (ngB SX), .slice A4 n4 c4, .int .i64 SE] 30)); have yq_x0 := y_x.c0; have yq_x1 := y_x.c1; have yq_x2 := y_x.c2
      have y_y := (x_y.alloc (.cells #[.bool (ngB SX), .slice A4 n4 c4, .int .i64 SE] 30)); have yq_y0 := y_y.c0; have yq_y1 := y_y.c1; have yq_y2 := y_y.c2
      have y_z := (x_z.alloc (.cells #[.bool (ngB SX), .slice A4 n4 c4, .int .i64 SE] 30)); have yq_z0 := y_z.c0; have yq_z1 := y_z.c1; have yq_z2 := y_z.c2
      go_wp2_with fail
      clear y_x yq_x0 yq_x1 yq_x2 y_y yq_y0 yq_y1 yq_y2 y_z yq_z0 yq_z1 yq_z2
      have hb1 := below_alloc v9 (.cells #[.bool (ngB SX), .slice A4 n4 c4, .int .i64 SE] 30)
      have l_x_s := x_x.lt
      have l_y_s := x_y.lt
      have l_z_s := x_z.lt
      have x_s := Dx.new v9 (ngB SX) A4 n4 c4 SE
      have e_s : w.heap.size ≤ v9.heap.size := hb.size
      replace x_x := x_x.keep hb1
      replace x_y := x_y.keep hb1
      replace x_z := x_z.keep hb1
      replace hT := hT.keep hb1
      replace z_x := z_x.keep hb1
      replace z_y := z_y.keep hb1
      replace z_s := z_s.keep hb1
      replace hb := bthen hb hb1
      clear hb1
      replace q_x0 := x_x.c0; replace q_x1 := x_x.c1; replace f_x0 := x_x.fr 0; replace f_x1 := x_x.fr 1; replace q_x2 := x_x.c2; replace f_x2 := x_x.fr 2
      replace q_y0 := x_y.c0; replace q_y1 := x_y.c1; replace f_y0 := x_y.fr 0; replace f_y1 := x_y.fr 1; replace q_y2 := x_y.c2; replace f_y2 := x_y.fr 2
      replace q_z0 := x_z.c0; replace q_z1 := x_z.c1; replace f_z0 := x_z.fr 0; replace f_z1 := x_z.fr 1; replace q_z2 := x_z.c2; replace f_z2 := x_z.fr 2
      clear q_x0 q_x1 f_x0 f_x1 q_x2 f_x2 q_y0 q_y1 f_y0 f_y1 q_y2 f_y2 q_z0 q_z1 f_z0 f_z1 q_z2 f_z2
      generalize v9.alloc (.cells #[.bool (ngB SX), .slice A4 n4 c4, .int .i64 SE] 30) = v10 at *
      have q_x0 := x_x.c0; have q_x1 := x_x.c1; have f_x0 := x_x.fr 0; have f_x1 := x_x.fr 1; have q_x2 := x_x.c2; have f_x2 := x_x.fr 2
      have q_y0 := x_y.c0; have q_y1 := x_y.c1; have f_y0 := x_y.fr 0; have f_y1 := x_y.fr 1; have q_y2 := x_y.c2; have f_y2 := x_y.fr 2
      have q_z0 := x_z.c0; have q_z1 := x_z.c1; have f_z0 := x_z.fr 0; have f_z1 := x_z.fr 1; have q_z2 := x_z.c2; have f_z2 := x_z.fr 2
      have q_s0 := x_s.c0; have q_s1 := x_s.c1; have f_s0 := x_s.fr 0; have f_s1 := x_s.fr 1; have q_s2 := x_s.c2; have f_s2 := x_s.fr 2
      refine wp_region_held_drew (S := fun w' => w'.cell? ⟨v2.heap.size, 0, none⟩ = some (.bool (ngB Q)) ∧ w'.cell? ⟨v2.heap.size, 1, none⟩ = some (.slice A1 n1 c1) ∧ w'.cell? ⟨v2.heap.size, 2, none⟩ = some (.int .i64 E) ∧ w'.cell? ⟨v4.heap.size, 0, none⟩ = some (.bool (ngB R)) ∧ w'.cell? ⟨v4.heap.size, 1, none⟩ = some (.slice A2 n2 c2) ∧ w'.cell? ⟨v4.heap.size, 2, none⟩ = some (.int .i64 F) ∧ w'.cell? ⟨v9.heap.size, 0, none⟩ = some (.bool (ngB SX)) ∧ w'.cell? ⟨v9.heap.size, 1, none⟩ = some (.slice A4 n4 c4) ∧ w'.cell? ⟨v9.heap.size, 2, none⟩ = some (.int .i64 SE)) (by kernel_rfl) (by exact ⟨x_x.c0, x_x.c1, x_x.c2, x_y.c0, x_y.c1, x_y.c2, x_s.c0, x_s.c1, x_s.c2⟩) (fun hHeld => ?_)
      refine wpAnyH_take (i := 0) (oi := ({ dst := some 62, op := Op.move (Operand.tmp 5), type := 4, pos := "law.go:92", after := #[], guard := none } : Oper)) (v := ?_) rfl (by kernel_rfl) (by kernel_rfl) (by kernel_rfl) (fun _ _ _ h => h) (Or.inl ⟨by rfl, ?_⟩) (by assumption) ?_
      rotate_left
      · (intro w9 hSw; (try dsimp only at hSw); go_simp; all_goals with_reducible rfl)
      (try simp only [Act.put, List.setIfInBounds_toArray, List.set_cons_zero, List.set_cons_succ])
      refine wpAnyH_take (i := 1) (oi := ({ dst := some 63, op := Op.move (Operand.tmp 62), type := 4, pos := "law.go:92", after := #[{ on := 0, ground := Ground.data }], guard := none } : Oper)) (v := ?_) rfl (by kernel_rfl) (by kernel_rfl) (by kernel_rfl) (fun _ _ _ h => h) (Or.inl ⟨by rfl, ?_⟩) (by assumption) ?_
      rotate_left
      · (intro w9 hSw; (try dsimp only at hSw); go_simp; all_goals with_reducible rfl)
      (try simp only [Act.put, List.setIfInBounds_toArray, List.set_cons_zero, List.set_cons_succ])
      refine wpAnyH_take (i := 2) (oi := ({ dst := some 64, op := Op.load 30 (Operand.tmp 6), type := 30, pos := "law.go:92", after := #[{ on := 1, ground := Ground.guard }], guard := some (1, true) } : Oper)) (v := ?_) rfl (by kernel_rfl) (by kernel_rfl) (by kernel_rfl) (fun _ _ _ h => h) (Or.inl ⟨by rfl, ?_⟩) (by assumption) ?_
      rotate_left
      · (intro w9 hSw; (try dsimp only at hSw); go_simp; all_goals with_reducible rfl)
      (try simp only [Act.put, List.setIfInBounds_toArray, List.set_cons_zero, List.set_cons_succ])
      refine wpAnyH_take (i := 3) (oi := ({ dst := some 65, op := Op.load 30 (Operand.tmp 8), type := 30, pos := "law.go:92", after := #[{ on := 1, ground := Ground.guard }], guard := some (1, true) } : Oper)) (v := ?_) rfl (by kernel_rfl) (by kernel_rfl) (by kernel_rfl) (fun _ _ _ h => h) (Or.inl ⟨by rfl, ?_⟩) (by assumption) ?_
      rotate_left
      · (intro w9 hSw; (try dsimp only at hSw); go_simp; all_goals with_reducible rfl)
      (try simp only [Act.put, List.setIfInBounds_toArray, List.set_cons_zero, List.set_cons_succ])
      refine wpAnyH_take (i := 5) (oi := ({ dst := some 67, op := Op.move (Operand.tmp 10), type := 3, pos := "law.go:92", after := #[{ on := 1, ground := Ground.guard }], guard := some (1, true) } : Oper)) (v := ?_) rfl (by kernel_rfl) (by kernel_rfl) (by kernel_rfl) (fun _ _ _ h => h) (Or.inl ⟨by rfl, ?_⟩) (by assumption) ?_
      rotate_left
      · (intro w9 hSw; (try dsimp only at hSw); go_simp; all_goals with_reducible rfl)
      (try simp only [Act.put, List.setIfInBounds_toArray, List.set_cons_zero, List.set_cons_succ])
      refine wpAnyH_ready (rs := [4]) (by kernel_rfl) (by simp) ?_
      refine AllReadyH.cons (o := ({ dst := some 66, op := Op.call { callee := Callee.value (Operand.func 20), args := #[Operand.tmp 64, Operand.tmp 65], argTypes := #[30, 30] }, type := 3, pos := "law.go:92", after := #[{ on := 2, ground := Ground.data }, { on := 3, ground := Ground.data }, { on := 1, ground := Ground.chain }, { on := 1, ground := Ground.guard }], guard := some (1, true) } : Oper)) rfl (fun K hK => ?_) AllReadyH.nil
      go_simp
      with_reducible refine (DCmp_any z_x.zr.drw z_y.zr.drw (by omega) (by omega)).mono ?_
      rintro e v11 ⟨rfl, hb1⟩
      replace hb1 := undrew hb1
      replace x_x := x_x.keep hb1
      replace x_y := x_y.keep hb1
      replace x_z := x_z.keep hb1
      replace x_s := x_s.keep hb1
      replace hT := hT.keep hb1
      replace z_x := z_x.keep hb1
      replace z_y := z_y.keep hb1
      replace z_s := z_s.keep hb1
      replace hb := bthen hb hb1
      clear hb1
      replace q_x0 := x_x.c0; replace q_x1 := x_x.c1; replace f_x0 := x_x.fr 0; replace f_x1 := x_x.fr 1; replace q_x2 := x_x.c2; replace f_x2 := x_x.fr 2
      replace q_y0 := x_y.c0; replace q_y1 := x_y.c1; replace f_y0 := x_y.fr 0; replace f_y1 := x_y.fr 1; replace q_y2 := x_y.c2; replace f_y2 := x_y.fr 2
      replace q_z0 := x_z.c0; replace q_z1 := x_z.c1; replace f_z0 := x_z.fr 0; replace f_z1 := x_z.fr 1; replace q_z2 := x_z.c2; replace f_z2 := x_z.fr 2
      replace q_s0 := x_s.c0; replace q_s1 := x_s.c1; replace f_s0 := x_s.fr 0; replace f_s1 := x_s.fr 1; replace q_s2 := x_s.c2; replace f_s2 := x_s.fr 2
      rw [HC.out, HG.out]
      (try go_wp2_with fail)
      refine hK.out _ _ (by exact ⟨x_x.c0, x_x.c1, x_x.c2, x_y.c0, x_y.c1, x_y.c2, x_s.c0, x_s.c1, x_s.c2⟩) (fun hHeld => ?_)
      clear hK K
      (try simp only [Act.put, List.setIfInBounds_toArray, List.set_cons_zero, List.set_cons_succ])
      refine wpAnyH_take (i := 6) (oi := ({ dst := some 68, op := Op.binOp BinOp.eql 3 (Operand.tmp 66) (Operand.tmp 67) 3, type := 4, pos := "law.go:92", after := #[{ on := 4, ground := Ground.data }, { on := 5, ground := Ground.data }, { on := 1, ground := Ground.guard }], guard := some (1, true) } : Oper)) (v := ?_) rfl (by kernel_rfl) (by kernel_rfl) (by kernel_rfl) (fun _ _ _ h => h) (Or.inl ⟨by rfl, ?_⟩) (by assumption) ?_
      rotate_left
      · (intro w9 hSw; (try dsimp only at hSw); go_simp; all_goals with_reducible rfl)
      (try simp only [Act.put, List.setIfInBounds_toArray, List.set_cons_zero, List.set_cons_succ])
      refine wpAnyH_take (i := 7) (oi := ({ dst := some 69, op := Op.pick (Operand.tmp 63) (Operand.tmp 68) (Operand.const (Value.bool false)), type := 4, pos := "law.go:92", after := #[{ on := 1, ground := Ground.data }, { on := 6, ground := Ground.data }], guard := none } : Oper)) (v := ?_) rfl (by kernel_rfl) (by kernel_rfl) (by kernel_rfl) (fun _ _ _ h => h) (Or.inl ⟨by rfl, ?_⟩) (by assumption) ?_
      rotate_left
      · (intro w9 hSw; (try dsimp only at hSw); go_simp; all_goals with_reducible rfl)
      (try simp only [Act.put, List.setIfInBounds_toArray, List.set_cons_zero, List.set_cons_succ])
      refine wpAnyH_take (i := 8) (oi := ({ dst := some 70, op := Op.move (Operand.tmp 69), type := 4, pos := "law.go:92", after := #[{ on := 7, ground := Ground.data }, { on := 4, ground := Ground.chain }], guard := none } : Oper)) (v := ?_) rfl (by kernel_rfl) (by kernel_rfl) (by kernel_rfl) (fun _ _ _ h => h) (Or.inl ⟨by rfl, ?_⟩) (by assumption) ?_
      rotate_left
      · (intro w9 hSw; (try dsimp only at hSw); go_simp; all_goals with_reducible rfl)
      (try simp only [Act.put, List.setIfInBounds_toArray, List.set_cons_zero, List.set_cons_succ])
      refine wpAnyH_take (i := 9) (oi := ({ dst := some 71, op := Op.move (Operand.tmp 16), type := 4, pos := "law.go:92", after := #[{ on := 8, ground := Ground.guard }], guard := some (8, true) } : Oper)) (v := ?_) rfl (by kernel_rfl) (by kernel_rfl) (by kernel_rfl) (fun _ _ _ h => h) (Or.inl ⟨by rfl, ?_⟩) (by assumption) ?_
      rotate_left
      · (intro w9 hSw; (try dsimp only at hSw); go_simp; all_goals with_reducible rfl)
      (try simp only [Act.put, List.setIfInBounds_toArray, List.set_cons_zero, List.set_cons_succ])
      refine wpAnyH_take (i := 10) (oi := ({ dst := some 72, op := Op.move (Operand.tmp 71), type := 4, pos := "law.go:92", after := #[{ on := 9, ground := Ground.data }, { on := 8, ground := Ground.chain }, { on := 8, ground := Ground.guard }], guard := some (8, true) } : Oper)) (v := ?_) rfl (by kernel_rfl) (by kernel_rfl) (by kernel_rfl) (fun _ _ _ h => h) (Or.inl ⟨by rfl, ?_⟩) (by assumption) ?_
      rotate_left
      · (intro w9 hSw; (try dsimp only at hSw); go_simp; all_goals with_reducible rfl)
      (try simp only [Act.put, List.setIfInBounds_toArray, List.set_cons_zero, List.set_cons_succ])
      refine wpAnyH_take (i := 11) (oi := ({ dst := some 73, op := Op.move (Operand.tmp 14), type := 31, pos := "law.go:92", after := #[{ on := 10, ground := Ground.guard }], guard := some (10, true) } : Oper)) (v := ?_) rfl (by kernel_rfl) (by kernel_rfl) (by kernel_rfl) (fun _ _ _ h => h) (Or.inl ⟨by rfl, ?_⟩) (by assumption) ?_
      rotate_left
      · (intro w9 hSw; (try dsimp only at hSw); go_simp; all_goals with_reducible rfl)
      (try simp only [Act.put, List.setIfInBounds_toArray, List.set_cons_zero, List.set_cons_succ])
      refine wpAnyH_take (i := 12) (oi := ({ dst := some 74, op := Op.binOp BinOp.eql 31 (Operand.tmp 73) (Operand.const (Value.int IntKind.i64 1)) 31, type := 4, pos := "law.go:92", after := #[{ on := 11, ground := Ground.data }, { on := 10, ground := Ground.guard }], guard := some (10, true) } : Oper)) (v := ?_) rfl (by kernel_rfl) (by kernel_rfl) (by kernel_rfl) (fun _ _ _ h => h) (Or.inl ⟨by rfl, ?_⟩) (by assumption) ?_
      rotate_left
      · (intro w9 hSw; (try dsimp only at hSw); go_simp; all_goals with_reducible rfl)
      (try simp only [Act.put, List.setIfInBounds_toArray, List.set_cons_zero, List.set_cons_succ])
      refine wpAnyH_take (i := 13) (oi := ({ dst := some 75, op := Op.pick (Operand.tmp 72) (Operand.tmp 74) (Operand.const (Value.bool false)), type := 4, pos := "law.go:92", after := #[{ on := 10, ground := Ground.data }, { on := 12, ground := Ground.data }, { on := 8, ground := Ground.guard }], guard := some (8, true) } : Oper)) (v := ?_) rfl (by kernel_rfl) (by kernel_rfl) (by kernel_rfl) (fun _ _ _ h => h) (Or.inl ⟨by rfl, ?_⟩) (by assumption) ?_
      rotate_left
      · (intro w9 hSw; (try dsimp only at hSw); go_simp; all_goals with_reducible rfl)
      (try simp only [Act.put, List.setIfInBounds_toArray, List.set_cons_zero, List.set_cons_succ])
      refine wpAnyH_take (i := 14) (oi := ({ dst := some 76, op := Op.move (Operand.tmp 75), type := 4, pos := "law.go:92", after := #[{ on := 13, ground := Ground.data }, { on := 10, ground := Ground.chain }, { on := 8, ground := Ground.guard }], guard := some (8, true) } : Oper)) (v := ?_) rfl (by kernel_rfl) (by kernel_rfl) (by kernel_rfl) (fun _ _ _ h => h) (Or.inl ⟨by rfl, ?_⟩) (by assumption) ?_
      rotate_left
      · (intro w9 hSw; (try dsimp only at hSw); go_simp; all_goals with_reducible rfl)
      (try simp only [Act.put, List.setIfInBounds_toArray, List.set_cons_zero, List.set_cons_succ])
      refine wpAnyH_take (i := 15) (oi := ({ dst := some 77, op := Op.move (Operand.tmp 16), type := 4, pos := "law.go:92", after := #[{ on := 14, ground := Ground.guard }], guard := some (14, false) } : Oper)) (v := undef) rfl (by kernel_rfl) (by kernel_rfl) (by kernel_rfl) (fun _ _ _ h => h) (Or.inr ⟨by rfl, rfl⟩) (by assumption) ?_
      (try simp only [Act.put, List.setIfInBounds_toArray, List.set_cons_zero, List.set_cons_succ])
      refine wpAnyH_take (i := 16) (oi := ({ dst := some 78, op := Op.unOp UnOp.not 4 (Operand.tmp 77), type := 4, pos := "law.go:92", after := #[{ on := 15, ground := Ground.data }, { on := 14, ground := Ground.guard }], guard := some (14, false) } : Oper)) (v := undef) rfl (by kernel_rfl) (by kernel_rfl) (by kernel_rfl) (fun _ _ _ h => h) (Or.inr ⟨by rfl, rfl⟩) (by assumption) ?_
      (try simp only [Act.put, List.setIfInBounds_toArray, List.set_cons_zero, List.set_cons_succ])
      refine wpAnyH_take (i := 17) (oi := ({ dst := some 79, op := Op.move (Operand.tmp 78), type := 4, pos := "law.go:92", after := #[{ on := 16, ground := Ground.data }, { on := 14, ground := Ground.chain }, { on := 14, ground := Ground.guard }], guard := some (14, false) } : Oper)) (v := undef) rfl (by kernel_rfl) (by kernel_rfl) (by kernel_rfl) (fun _ _ _ h => h) (Or.inr ⟨by rfl, rfl⟩) (by assumption) ?_
      (try simp only [Act.put, List.setIfInBounds_toArray, List.set_cons_zero, List.set_cons_succ])
      refine wpAnyH_take (i := 18) (oi := ({ dst := some 80, op := Op.load 30 (Operand.tmp 15), type := 30, pos := "law.go:92", after := #[{ on := 17, ground := Ground.guard }], guard := some (17, true) } : Oper)) (v := undef) rfl (by kernel_rfl) (by kernel_rfl) (by kernel_rfl) (fun _ _ _ h => h) (Or.inr ⟨by rfl, rfl⟩) (by assumption) ?_
      (try simp only [Act.put, List.setIfInBounds_toArray, List.set_cons_zero, List.set_cons_succ])
      refine wpAnyH_take (i := 19) (oi := ({ dst := some 81, op := Op.call { callee := Callee.value (Operand.func 22), args := #[Operand.const (Value.int IntKind.i64 1)], argTypes := #[2] }, type := 28, pos := "law.go:92", after := #[{ on := 17, ground := Ground.chain }, { on := 17, ground := Ground.guard }], guard := some (17, true) } : Oper)) (v := undef) rfl (by kernel_rfl) (by kernel_rfl) (by kernel_rfl) (fun _ _ _ h => h) (Or.inr ⟨by rfl, rfl⟩) (by assumption) ?_
      (try simp only [Act.put, List.setIfInBounds_toArray, List.set_cons_zero, List.set_cons_succ])
      refine wpAnyH_take (i := 20) (oi := ({ dst := some 82, op := Op.move (Operand.tmp 11), type := 3, pos := "law.go:92", after := #[{ on := 17, ground := Ground.guard }], guard := some (17, true) } : Oper)) (v := undef) rfl (by kernel_rfl) (by kernel_rfl) (by kernel_rfl) (fun _ _ _ h => h) (Or.inr ⟨by rfl, rfl⟩) (by assumption) ?_
      (try simp only [Act.put, List.setIfInBounds_toArray, List.set_cons_zero, List.set_cons_succ])
      refine wpAnyH_take (i := 21) (oi := ({ dst := some 83, op := Op.binOp BinOp.sub 3 (Operand.tmp 82) (Operand.const (Value.int IntKind.i64 52)) 3, type := 3, pos := "law.go:92", after := #[{ on := 20, ground := Ground.data }, { on := 17, ground := Ground.guard }], guard := some (17, true) } : Oper)) (v := undef) rfl (by kernel_rfl) (by kernel_rfl) (by kernel_rfl) (fun _ _ _ h => h) (Or.inr ⟨by rfl, rfl⟩) (by assumption) ?_
      (try simp only [Act.put, List.setIfInBounds_toArray, List.set_cons_zero, List.set_cons_succ])
      refine wpAnyH_take (i := 22) (oi := ({ dst := some 84, op := Op.call { callee := Callee.value (Operand.func 21), args := #[Operand.tmp 81, Operand.tmp 83], argTypes := #[28, 3] }, type := 30, pos := "law.go:92", after := #[{ on := 19, ground := Ground.data }, { on := 21, ground := Ground.data }, { on := 19, ground := Ground.chain }, { on := 17, ground := Ground.guard }], guard := some (17, true) } : Oper)) (v := undef) rfl (by kernel_rfl) (by kernel_rfl) (by kernel_rfl) (fun _ _ _ h => h) (Or.inr ⟨by rfl, rfl⟩) (by assumption) ?_
      (try simp only [Act.put, List.setIfInBounds_toArray, List.set_cons_zero, List.set_cons_succ])
      refine wpAnyH_take (i := 23) (oi := ({ dst := some 85, op := Op.call { callee := Callee.value (Operand.func 20), args := #[Operand.tmp 80, Operand.tmp 84], argTypes := #[30, 30] }, type := 3, pos := "law.go:92", after := #[{ on := 18, ground := Ground.data }, { on := 22, ground := Ground.data }, { on := 22, ground := Ground.chain }, { on := 17, ground := Ground.guard }], guard := some (17, true) } : Oper)) (v := undef) rfl (by kernel_rfl) (by kernel_rfl) (by kernel_rfl) (fun _ _ _ h => h) (Or.inr ⟨by rfl, rfl⟩) (by assumption) ?_
      (try simp only [Act.put, List.setIfInBounds_toArray, List.set_cons_zero, List.set_cons_succ])
      refine wpAnyH_take (i := 24) (oi := ({ dst := some 86, op := Op.binOp BinOp.eql 3 (Operand.tmp 85) (Operand.const (Value.int IntKind.i64 0)) 3, type := 4, pos := "law.go:92", after := #[{ on := 23, ground := Ground.data }, { on := 17, ground := Ground.guard }], guard := some (17, true) } : Oper)) (v := undef) rfl (by kernel_rfl) (by kernel_rfl) (by kernel_rfl) (fun _ _ _ h => h) (Or.inr ⟨by rfl, rfl⟩) (by assumption) ?_
      (try simp only [Act.put, List.setIfInBounds_toArray, List.set_cons_zero, List.set_cons_succ])
      refine wpAnyH_take (i := 25) (oi := ({ dst := some 87, op := Op.pick (Operand.tmp 79) (Operand.tmp 86) (Operand.const (Value.bool false)), type := 4, pos := "law.go:92", after := #[{ on := 17, ground := Ground.data }, { on := 24, ground := Ground.data }, { on := 14, ground := Ground.guard }], guard := some (14, false) } : Oper)) (v := undef) rfl (by kernel_rfl) (by kernel_rfl) (by kernel_rfl) (fun _ _ _ h => h) (Or.inr ⟨by rfl, rfl⟩) (by assumption) ?_
      (try simp only [Act.put, List.setIfInBounds_toArray, List.set_cons_zero, List.set_cons_succ])
      refine wpAnyH_take (i := 26) (oi := ({ dst := some 88, op := Op.pick (Operand.tmp 76) (Operand.const (Value.bool true)) (Operand.tmp 87), type := 4, pos := "law.go:92", after := #[{ on := 14, ground := Ground.data }, { on := 25, ground := Ground.data }, { on := 8, ground := Ground.guard }], guard := some (8, true) } : Oper)) (v := ?_) rfl (by kernel_rfl) (by kernel_rfl) (by kernel_rfl) (fun _ _ _ h => h) (Or.inl ⟨by rfl, ?_⟩) (by assumption) ?_
      rotate_left
      · (intro w9 hSw; (try dsimp only at hSw); go_simp; all_goals with_reducible rfl)
      (try simp only [Act.put, List.setIfInBounds_toArray, List.set_cons_zero, List.set_cons_succ])
      refine wpAnyH_take (i := 27) (oi := ({ dst := some 89, op := Op.pick (Operand.tmp 70) (Operand.tmp 88) (Operand.const (Value.bool false)), type := 4, pos := "law.go:92", after := #[{ on := 8, ground := Ground.data }, { on := 26, ground := Ground.data }], guard := none } : Oper)) (v := ?_) rfl (by kernel_rfl) (by kernel_rfl) (by kernel_rfl) (fun _ _ _ h => h) (Or.inl ⟨by rfl, ?_⟩) (by assumption) ?_
      rotate_left
      · (intro w9 hSw; (try dsimp only at hSw); go_simp; all_goals with_reducible rfl)
      (try simp only [Act.put, List.setIfInBounds_toArray, List.set_cons_zero, List.set_cons_succ])
      refine wpAnyH_take (i := 28) (oi := ({ dst := some 4, op := Op.assign (Operand.tmp 89), type := 4, pos := "law.go:92", after := #[{ on := 27, ground := Ground.data }, { on := 23, ground := Ground.chain }, { on := 0, ground := Ground.phase }, { on := 1, ground := Ground.phase }, { on := 2, ground := Ground.phase }, { on := 3, ground := Ground.phase }, { on := 4, ground := Ground.phase }, { on := 5, ground := Ground.phase }, { on := 6, ground := Ground.phase }, { on := 7, ground := Ground.phase }, { on := 8, ground := Ground.phase }, { on := 9, ground := Ground.phase }, { on := 10, ground := Ground.phase }, { on := 11, ground := Ground.phase }, { on := 12, ground := Ground.phase }, { on := 13, ground := Ground.phase }, { on := 14, ground := Ground.phase }, { on := 15, ground := Ground.phase }, { on := 16, ground := Ground.phase }, { on := 17, ground := Ground.phase }, { on := 18, ground := Ground.phase }, { on := 19, ground := Ground.phase }, { on := 20, ground := Ground.phase }, { on := 21, ground := Ground.phase }, { on := 22, ground := Ground.phase }, { on := 23, ground := Ground.phase }, { on := 24, ground := Ground.phase }, { on := 25, ground := Ground.phase }, { on := 26, ground := Ground.phase }, { on := 27, ground := Ground.phase }], guard := none } : Oper)) (v := ?_) rfl (by kernel_rfl) (by kernel_rfl) (by kernel_rfl) (fun _ _ _ h => h) (Or.inl ⟨by rfl, ?_⟩) (by assumption) ?_
      rotate_left
      · (intro w9 hSw; (try dsimp only at hSw); go_simp; all_goals with_reducible rfl)
      (try simp only [Act.put, List.setIfInBounds_toArray, List.set_cons_zero, List.set_cons_succ])
      refine wpAnyH_done (by kernel_rfl) ?_ _
      go_wp2
      go_ret
      exact ⟨rfl, hb⟩
    · have hg := hcm.2.2 hl
      have hl1 : ¬ a < b := by omega
      have hl2 : ¬ b < a := by omega
      clear hl
      have HG := Lib.hid hg; clear hg hcm
      have hb := Below.refl w.heap.size w
      go_enter Tryd.func5, Tryd.ntmps5
      go_wp2_with fail
      with_reducible refine (Bshown_any hT).mono ?_
      rintro e v1 ⟨rfl, hb1⟩
      replace hT := hT.keep hb1
      replace hb := bthen hb hb1
      clear hb1
      go_wp2_with fail
      with_reducible refine (Value_any _ a rfl HL.out.1 hT HF.out.1).mono ?_
      rintro e v2 ⟨A1, n1, c1, rfl, z_x, hb1⟩
      replace hT := hT.keep hb1
      replace hb := bthen hb hb1
      clear hb1
      rw [HQ.out.1] at z_x
      rw [HQ.out.1, HQ.out.2]
      go_wp2_with fail
      have hb1 := below_alloc v2 (.cells #[.bool (ngB Q), .slice A1 n1 c1, .int .i64 E] 30)
      have x_x := Dx.new v2 (ngB Q) A1 n1 c1 E
      have e_x : w.heap.size ≤ v2.heap.size := hb.size
      replace hT := hT.keep hb1
      replace z_x := z_x.keep hb1
      replace hb := bthen hb hb1
      clear hb1
      generalize v2.alloc (.cells #[.bool (ngB Q), .slice A1 n1 c1, .int .i64 E] 30) = v3 at *
      have q_x0 := x_x.c0; have q_x1 := x_x.c1; have f_x0 := x_x.fr 0; have f_x1 := x_x.fr 1; have q_x2 := x_x.c2; have f_x2 := x_x.fr 2
      skip
      with_reducible refine (Value_any _ b rfl HL.out.2 hT HF.out.2).mono ?_
      rintro e v4 ⟨A2, n2, c2, rfl, z_y, hb1⟩
      replace x_x := x_x.keep hb1
      replace hT := hT.keep hb1
      replace z_x := z_x.keep hb1
      replace hb := bthen hb hb1
      clear hb1
      replace q_x0 := x_x.c0; replace q_x1 := x_x.c1; replace f_x0 := x_x.fr 0; replace f_x1 := x_x.fr 1; replace q_x2 := x_x.c2; replace f_x2 := x_x.fr 2
      rw [HR.out.1] at z_y
      rw [HR.out.1, HR.out.2]
      have y_x := (x_x.alloc (.cells #[.bool (ngB R), .slice A2 n2 c2, .int .i64 F] 30)); have yq_x0 := y_x.c0; have yq_x1 := y_x.c1; have yq_x2 := y_x.c2
      go_wp2_with fail
      clear y_x yq_x0 yq_x1 yq_x2
      have hb1 := below_alloc v4 (.cells #[.bool (ngB R), .slice A2 n2 c2, .int .i64 F] 30)
      have l_x_y := x_x.lt
      have x_y := Dx.new v4 (ngB R) A2 n2 c2 F
      have e_y : w.heap.size ≤ v4.heap.size := hb.size
      replace x_x := x_x.keep hb1
      replace hT := hT.keep hb1
      replace z_x := z_x.keep hb1
      replace z_y := z_y.keep hb1
      replace hb := bthen hb hb1
      clear hb1
      replace q_x0 := x_x.c0; replace q_x1 := x_x.c1; replace f_x0 := x_x.fr 0; replace f_x1 := x_x.fr 1; replace q_x2 := x_x.c2; replace f_x2 := x_x.fr 2
      clear q_x0 q_x1 f_x0 f_x1 q_x2 f_x2
      generalize v4.alloc (.cells #[.bool (ngB R), .slice A2 n2 c2, .int .i64 F] 30) = v5 at *
      have q_x0 := x_x.c0; have q_x1 := x_x.c1; have f_x0 := x_x.fr 0; have f_x1 := x_x.fr 1; have q_x2 := x_x.c2; have f_x2 := x_x.fr 2
      have q_y0 := x_y.c0; have q_y1 := x_y.c1; have f_y0 := x_y.fr 0; have f_y1 := x_y.fr 1; have q_y2 := x_y.c2; have f_y2 := x_y.fr 2
      skip
      with_reducible refine (Binade_yes _ a rfl HL.out.1 HN.out).mono ?_
      rintro e v6 ⟨rfl, hb1⟩
      replace x_x := x_x.keep hb1
      replace x_y := x_y.keep hb1
      replace hT := hT.keep hb1
      replace z_x := z_x.keep hb1
      replace z_y := z_y.keep hb1
      replace hb := bthen hb hb1
      clear hb1
      replace q_x0 := x_x.c0; replace q_x1 := x_x.c1; replace f_x0 := x_x.fr 0; replace f_x1 := x_x.fr 1; replace q_x2 := x_x.c2; replace f_x2 := x_x.fr 2
      replace q_y0 := x_y.c0; replace q_y1 := x_y.c1; replace f_y0 := x_y.fr 0; replace f_y1 := x_y.fr 1; replace q_y2 := x_y.c2; replace f_y2 := x_y.fr 2
      go_wp2_with fail
      with_reducible refine (Value_none _ z1 rfl HK.out.2 HK.out.1).mono ?_
      rintro e v7 ⟨rfl, hb1⟩
      replace x_x := x_x.keep hb1
      replace x_y := x_y.keep hb1
      replace hT := hT.keep hb1
      replace z_x := z_x.keep hb1
      replace z_y := z_y.keep hb1
      replace hb := bthen hb hb1
      clear hb1
      replace q_x0 := x_x.c0; replace q_x1 := x_x.c1; replace f_x0 := x_x.fr 0; replace f_x1 := x_x.fr 1; replace q_x2 := x_x.c2; replace f_x2 := x_x.fr 2
      replace q_y0 := x_y.c0; replace q_y1 := x_y.c1; replace f_y0 := x_y.fr 0; replace f_y1 := x_y.fr 1; replace q_y2 := x_y.c2; replace f_y2 := x_y.fr 2
      have y_x := (x_x.alloc (.cells #[.bool false, .slice none 0 0, .int .i64 0] 30)); have yq_x0 := y_x.c0; have yq_x1 := y_x.c1; have yq_x2 := y_x.c2
      have y_y := (x_y.alloc (.cells #[.bool false, .slice none 0 0, .int .i64 0] 30)); have yq_y0 := y_y.c0; have yq_y1 := y_y.c1; have yq_y2 := y_y.c2
      go_wp2_with fail
      clear y_x yq_x0 yq_x1 yq_x2 y_y yq_y0 yq_y1 yq_y2
      have hb1 := below_alloc v7 (.cells #[.bool false, .slice none 0 0, .int .i64 0] 30)
      have l_x_z := x_x.lt
      have l_y_z := x_y.lt
      have x_z := Dx.new v7 false none 0 0 0
      have e_z : w.heap.size ≤ v7.heap.size := hb.size
      replace x_x := x_x.keep hb1
      replace x_y := x_y.keep hb1
      replace hT := hT.keep hb1
      replace z_x := z_x.keep hb1
      replace z_y := z_y.keep hb1
      replace hb := bthen hb hb1
      clear hb1
      replace q_x0 := x_x.c0; replace q_x1 := x_x.c1; replace f_x0 := x_x.fr 0; replace f_x1 := x_x.fr 1; replace q_x2 := x_x.c2; replace f_x2 := x_x.fr 2
      replace q_y0 := x_y.c0; replace q_y1 := x_y.c1; replace f_y0 := x_y.fr 0; replace f_y1 := x_y.fr 1; replace q_y2 := x_y.c2; replace f_y2 := x_y.fr 2
      clear q_x0 q_x1 f_x0 f_x1 q_x2 f_x2 q_y0 q_y1 f_y0 f_y1 q_y2 f_y2
      generalize v7.alloc (.cells #[.bool false, .slice none 0 0, .int .i64 0] 30) = v8 at *
      have q_x0 := x_x.c0; have q_x1 := x_x.c1; have f_x0 := x_x.fr 0; have f_x1 := x_x.fr 1; have q_x2 := x_x.c2; have f_x2 := x_x.fr 2
      have q_y0 := x_y.c0; have q_y1 := x_y.c1; have f_y0 := x_y.fr 0; have f_y1 := x_y.fr 1; have q_y2 := x_y.c2; have f_y2 := x_y.fr 2
      have q_z0 := x_z.c0; have q_z1 := x_z.c1; have f_z0 := x_z.fr 0; have f_z1 := x_z.fr 1; have q_z2 := x_z.c2; have f_z2 := x_z.fr 2
      skip
      with_reducible refine (DSub_any (Zr.zero _) z_x.zr hT 200 (by omega) (by omega) (by omega)).mono ?_
      rintro e v9 ⟨A4, n4, c4, rfl, z_s, hb1⟩
      replace x_x := x_x.keep hb1
      replace x_y := x_y.keep hb1
      replace x_z := x_z.keep hb1
      replace hT := hT.keep hb1
      replace z_x := z_x.keep hb1
      replace z_y := z_y.keep hb1
      replace hb := bthen hb hb1
      clear hb1
      replace q_x0 := x_x.c0; replace q_x1 := x_x.c1; replace f_x0 := x_x.fr 0; replace f_x1 := x_x.fr 1; replace q_x2 := x_x.c2; replace f_x2 := x_x.fr 2
      replace q_y0 := x_y.c0; replace q_y1 := x_y.c1; replace f_y0 := x_y.fr 0; replace f_y1 := x_y.fr 1; replace q_y2 := x_y.c2; replace f_y2 := x_y.fr 2
      replace q_z0 := x_z.c0; replace q_z1 := x_z.c1; replace f_z0 := x_z.fr 0; replace f_z1 := x_z.fr 1; replace q_z2 := x_z.c2; replace f_z2 := x_z.fr 2
      generalize od (alP 0 0 E - alQ Q 0 E) = SX at *
      generalize nE (alP 0 0 E - alQ Q 0 E) (alE 0 E) = SE at *
      have y_x := (x_x.alloc (.cells #[.bool (ngB SX), .slice A4 n4 c4, .int .i64 SE] 30)); have yq_x0 := y_x.c0; have yq_x1 := y_x.c1; have yq_x2 := y_x.c2
      have y_y := (x_y.alloc (.cells #[.bool (ngB SX), .slice A4 n4 c4, .int .i64 SE] 30)); have yq_y0 := y_y.c0; have yq_y1 := y_y.c1; have yq_y2 := y_y.c2
      have y_z := (x_z.alloc (.cells #[.bool (ngB SX), .slice A4 n4 c4, .int .i64 SE] 30)); have yq_z0 := y_z.c0; have yq_z1 := y_z.c1; have yq_z2 := y_z.c2
      go_wp2_with fail
      clear y_x yq_x0 yq_x1 yq_x2 y_y yq_y0 yq_y1 yq_y2 y_z yq_z0 yq_z1 yq_z2
      have hb1 := below_alloc v9 (.cells #[.bool (ngB SX), .slice A4 n4 c4, .int .i64 SE] 30)
      have l_x_s := x_x.lt
      have l_y_s := x_y.lt
      have l_z_s := x_z.lt
      have x_s := Dx.new v9 (ngB SX) A4 n4 c4 SE
      have e_s : w.heap.size ≤ v9.heap.size := hb.size
      replace x_x := x_x.keep hb1
      replace x_y := x_y.keep hb1
      replace x_z := x_z.keep hb1
      replace hT := hT.keep hb1
      replace z_x := z_x.keep hb1
      replace z_y := z_y.keep hb1
      replace z_s := z_s.keep hb1
      replace hb := bthen hb hb1
      clear hb1
      replace q_x0 := x_x.c0; replace q_x1 := x_x.c1; replace f_x0 := x_x.fr 0; replace f_x1 := x_x.fr 1; replace q_x2 := x_x.c2; replace f_x2 := x_x.fr 2
      replace q_y0 := x_y.c0; replace q_y1 := x_y.c1; replace f_y0 := x_y.fr 0; replace f_y1 := x_y.fr 1; replace q_y2 := x_y.c2; replace f_y2 := x_y.fr 2
      replace q_z0 := x_z.c0; replace q_z1 := x_z.c1; replace f_z0 := x_z.fr 0; replace f_z1 := x_z.fr 1; replace q_z2 := x_z.c2; replace f_z2 := x_z.fr 2
      clear q_x0 q_x1 f_x0 f_x1 q_x2 f_x2 q_y0 q_y1 f_y0 f_y1 q_y2 f_y2 q_z0 q_z1 f_z0 f_z1 q_z2 f_z2
      generalize v9.alloc (.cells #[.bool (ngB SX), .slice A4 n4 c4, .int .i64 SE] 30) = v10 at *
      have q_x0 := x_x.c0; have q_x1 := x_x.c1; have f_x0 := x_x.fr 0; have f_x1 := x_x.fr 1; have q_x2 := x_x.c2; have f_x2 := x_x.fr 2
      have q_y0 := x_y.c0; have q_y1 := x_y.c1; have f_y0 := x_y.fr 0; have f_y1 := x_y.fr 1; have q_y2 := x_y.c2; have f_y2 := x_y.fr 2
      have q_z0 := x_z.c0; have q_z1 := x_z.c1; have f_z0 := x_z.fr 0; have f_z1 := x_z.fr 1; have q_z2 := x_z.c2; have f_z2 := x_z.fr 2
      have q_s0 := x_s.c0; have q_s1 := x_s.c1; have f_s0 := x_s.fr 0; have f_s1 := x_s.fr 1; have q_s2 := x_s.c2; have f_s2 := x_s.fr 2
      refine wp_region_held_drew (S := fun w' => w'.cell? ⟨v2.heap.size, 0, none⟩ = some (.bool (ngB Q)) ∧ w'.cell? ⟨v2.heap.size, 1, none⟩ = some (.slice A1 n1 c1) ∧ w'.cell? ⟨v2.heap.size, 2, none⟩ = some (.int .i64 E) ∧ w'.cell? ⟨v4.heap.size, 0, none⟩ = some (.bool (ngB R)) ∧ w'.cell? ⟨v4.heap.size, 1, none⟩ = some (.slice A2 n2 c2) ∧ w'.cell? ⟨v4.heap.size, 2, none⟩ = some (.int .i64 F) ∧ w'.cell? ⟨v9.heap.size, 0, none⟩ = some (.bool (ngB SX)) ∧ w'.cell? ⟨v9.heap.size, 1, none⟩ = some (.slice A4 n4 c4) ∧ w'.cell? ⟨v9.heap.size, 2, none⟩ = some (.int .i64 SE)) (by kernel_rfl) (by exact ⟨x_x.c0, x_x.c1, x_x.c2, x_y.c0, x_y.c1, x_y.c2, x_s.c0, x_s.c1, x_s.c2⟩) (fun hHeld => ?_)
      refine wpAnyH_take (i := 0) (oi := ({ dst := some 62, op := Op.move (Operand.tmp 5), type := 4, pos := "law.go:92", after := #[], guard := none } : Oper)) (v := ?_) rfl (by kernel_rfl) (by kernel_rfl) (by kernel_rfl) (fun _ _ _ h => h) (Or.inl ⟨by rfl, ?_⟩) (by assumption) ?_
      rotate_left
      · (intro w9 hSw; (try dsimp only at hSw); go_simp; all_goals with_reducible rfl)
      (try simp only [Act.put, List.setIfInBounds_toArray, List.set_cons_zero, List.set_cons_succ])
      refine wpAnyH_take (i := 1) (oi := ({ dst := some 63, op := Op.move (Operand.tmp 62), type := 4, pos := "law.go:92", after := #[{ on := 0, ground := Ground.data }], guard := none } : Oper)) (v := ?_) rfl (by kernel_rfl) (by kernel_rfl) (by kernel_rfl) (fun _ _ _ h => h) (Or.inl ⟨by rfl, ?_⟩) (by assumption) ?_
      rotate_left
      · (intro w9 hSw; (try dsimp only at hSw); go_simp; all_goals with_reducible rfl)
      (try simp only [Act.put, List.setIfInBounds_toArray, List.set_cons_zero, List.set_cons_succ])
      refine wpAnyH_take (i := 2) (oi := ({ dst := some 64, op := Op.load 30 (Operand.tmp 6), type := 30, pos := "law.go:92", after := #[{ on := 1, ground := Ground.guard }], guard := some (1, true) } : Oper)) (v := ?_) rfl (by kernel_rfl) (by kernel_rfl) (by kernel_rfl) (fun _ _ _ h => h) (Or.inl ⟨by rfl, ?_⟩) (by assumption) ?_
      rotate_left
      · (intro w9 hSw; (try dsimp only at hSw); go_simp; all_goals with_reducible rfl)
      (try simp only [Act.put, List.setIfInBounds_toArray, List.set_cons_zero, List.set_cons_succ])
      refine wpAnyH_take (i := 3) (oi := ({ dst := some 65, op := Op.load 30 (Operand.tmp 8), type := 30, pos := "law.go:92", after := #[{ on := 1, ground := Ground.guard }], guard := some (1, true) } : Oper)) (v := ?_) rfl (by kernel_rfl) (by kernel_rfl) (by kernel_rfl) (fun _ _ _ h => h) (Or.inl ⟨by rfl, ?_⟩) (by assumption) ?_
      rotate_left
      · (intro w9 hSw; (try dsimp only at hSw); go_simp; all_goals with_reducible rfl)
      (try simp only [Act.put, List.setIfInBounds_toArray, List.set_cons_zero, List.set_cons_succ])
      refine wpAnyH_take (i := 5) (oi := ({ dst := some 67, op := Op.move (Operand.tmp 10), type := 3, pos := "law.go:92", after := #[{ on := 1, ground := Ground.guard }], guard := some (1, true) } : Oper)) (v := ?_) rfl (by kernel_rfl) (by kernel_rfl) (by kernel_rfl) (fun _ _ _ h => h) (Or.inl ⟨by rfl, ?_⟩) (by assumption) ?_
      rotate_left
      · (intro w9 hSw; (try dsimp only at hSw); go_simp; all_goals with_reducible rfl)
      (try simp only [Act.put, List.setIfInBounds_toArray, List.set_cons_zero, List.set_cons_succ])
      refine wpAnyH_ready (rs := [4]) (by kernel_rfl) (by simp) ?_
      refine AllReadyH.cons (o := ({ dst := some 66, op := Op.call { callee := Callee.value (Operand.func 20), args := #[Operand.tmp 64, Operand.tmp 65], argTypes := #[30, 30] }, type := 3, pos := "law.go:92", after := #[{ on := 2, ground := Ground.data }, { on := 3, ground := Ground.data }, { on := 1, ground := Ground.chain }, { on := 1, ground := Ground.guard }], guard := some (1, true) } : Oper)) rfl (fun K hK => ?_) AllReadyH.nil
      go_simp
      with_reducible refine (DCmp_any z_x.zr.drw z_y.zr.drw (by omega) (by omega)).mono ?_
      rintro e v11 ⟨rfl, hb1⟩
      replace hb1 := undrew hb1
      replace x_x := x_x.keep hb1
      replace x_y := x_y.keep hb1
      replace x_z := x_z.keep hb1
      replace x_s := x_s.keep hb1
      replace hT := hT.keep hb1
      replace z_x := z_x.keep hb1
      replace z_y := z_y.keep hb1
      replace z_s := z_s.keep hb1
      replace hb := bthen hb hb1
      clear hb1
      replace q_x0 := x_x.c0; replace q_x1 := x_x.c1; replace f_x0 := x_x.fr 0; replace f_x1 := x_x.fr 1; replace q_x2 := x_x.c2; replace f_x2 := x_x.fr 2
      replace q_y0 := x_y.c0; replace q_y1 := x_y.c1; replace f_y0 := x_y.fr 0; replace f_y1 := x_y.fr 1; replace q_y2 := x_y.c2; replace f_y2 := x_y.fr 2
      replace q_z0 := x_z.c0; replace q_z1 := x_z.c1; replace f_z0 := x_z.fr 0; replace f_z1 := x_z.fr 1; replace q_z2 := x_z.c2; replace f_z2 := x_z.fr 2
      replace q_s0 := x_s.c0; replace q_s1 := x_s.c1; replace f_s0 := x_s.fr 0; replace f_s1 := x_s.fr 1; replace q_s2 := x_s.c2; replace f_s2 := x_s.fr 2
      rw [HC.out, HG.out]
      (try go_wp2_with fail)
      refine hK.out _ _ (by exact ⟨x_x.c0, x_x.c1, x_x.c2, x_y.c0, x_y.c1, x_y.c2, x_s.c0, x_s.c1, x_s.c2⟩) (fun hHeld => ?_)
      clear hK K
      (try simp only [Act.put, List.setIfInBounds_toArray, List.set_cons_zero, List.set_cons_succ])
      refine wpAnyH_take (i := 6) (oi := ({ dst := some 68, op := Op.binOp BinOp.eql 3 (Operand.tmp 66) (Operand.tmp 67) 3, type := 4, pos := "law.go:92", after := #[{ on := 4, ground := Ground.data }, { on := 5, ground := Ground.data }, { on := 1, ground := Ground.guard }], guard := some (1, true) } : Oper)) (v := ?_) rfl (by kernel_rfl) (by kernel_rfl) (by kernel_rfl) (fun _ _ _ h => h) (Or.inl ⟨by rfl, ?_⟩) (by assumption) ?_
      rotate_left
      · (intro w9 hSw; (try dsimp only at hSw); go_simp; all_goals with_reducible rfl)
      (try simp only [Act.put, List.setIfInBounds_toArray, List.set_cons_zero, List.set_cons_succ])
      refine wpAnyH_take (i := 7) (oi := ({ dst := some 69, op := Op.pick (Operand.tmp 63) (Operand.tmp 68) (Operand.const (Value.bool false)), type := 4, pos := "law.go:92", after := #[{ on := 1, ground := Ground.data }, { on := 6, ground := Ground.data }], guard := none } : Oper)) (v := ?_) rfl (by kernel_rfl) (by kernel_rfl) (by kernel_rfl) (fun _ _ _ h => h) (Or.inl ⟨by rfl, ?_⟩) (by assumption) ?_
      rotate_left
      · (intro w9 hSw; (try dsimp only at hSw); go_simp; all_goals with_reducible rfl)
      (try simp only [Act.put, List.setIfInBounds_toArray, List.set_cons_zero, List.set_cons_succ])
      refine wpAnyH_take (i := 8) (oi := ({ dst := some 70, op := Op.move (Operand.tmp 69), type := 4, pos := "law.go:92", after := #[{ on := 7, ground := Ground.data }, { on := 4, ground := Ground.chain }], guard := none } : Oper)) (v := ?_) rfl (by kernel_rfl) (by kernel_rfl) (by kernel_rfl) (fun _ _ _ h => h) (Or.inl ⟨by rfl, ?_⟩) (by assumption) ?_
      rotate_left
      · (intro w9 hSw; (try dsimp only at hSw); go_simp; all_goals with_reducible rfl)
      (try simp only [Act.put, List.setIfInBounds_toArray, List.set_cons_zero, List.set_cons_succ])
      refine wpAnyH_take (i := 9) (oi := ({ dst := some 71, op := Op.move (Operand.tmp 16), type := 4, pos := "law.go:92", after := #[{ on := 8, ground := Ground.guard }], guard := some (8, true) } : Oper)) (v := ?_) rfl (by kernel_rfl) (by kernel_rfl) (by kernel_rfl) (fun _ _ _ h => h) (Or.inl ⟨by rfl, ?_⟩) (by assumption) ?_
      rotate_left
      · (intro w9 hSw; (try dsimp only at hSw); go_simp; all_goals with_reducible rfl)
      (try simp only [Act.put, List.setIfInBounds_toArray, List.set_cons_zero, List.set_cons_succ])
      refine wpAnyH_take (i := 10) (oi := ({ dst := some 72, op := Op.move (Operand.tmp 71), type := 4, pos := "law.go:92", after := #[{ on := 9, ground := Ground.data }, { on := 8, ground := Ground.chain }, { on := 8, ground := Ground.guard }], guard := some (8, true) } : Oper)) (v := ?_) rfl (by kernel_rfl) (by kernel_rfl) (by kernel_rfl) (fun _ _ _ h => h) (Or.inl ⟨by rfl, ?_⟩) (by assumption) ?_
      rotate_left
      · (intro w9 hSw; (try dsimp only at hSw); go_simp; all_goals with_reducible rfl)
      (try simp only [Act.put, List.setIfInBounds_toArray, List.set_cons_zero, List.set_cons_succ])
      refine wpAnyH_take (i := 11) (oi := ({ dst := some 73, op := Op.move (Operand.tmp 14), type := 31, pos := "law.go:92", after := #[{ on := 10, ground := Ground.guard }], guard := some (10, true) } : Oper)) (v := ?_) rfl (by kernel_rfl) (by kernel_rfl) (by kernel_rfl) (fun _ _ _ h => h) (Or.inl ⟨by rfl, ?_⟩) (by assumption) ?_
      rotate_left
      · (intro w9 hSw; (try dsimp only at hSw); go_simp; all_goals with_reducible rfl)
      (try simp only [Act.put, List.setIfInBounds_toArray, List.set_cons_zero, List.set_cons_succ])
      refine wpAnyH_take (i := 12) (oi := ({ dst := some 74, op := Op.binOp BinOp.eql 31 (Operand.tmp 73) (Operand.const (Value.int IntKind.i64 1)) 31, type := 4, pos := "law.go:92", after := #[{ on := 11, ground := Ground.data }, { on := 10, ground := Ground.guard }], guard := some (10, true) } : Oper)) (v := ?_) rfl (by kernel_rfl) (by kernel_rfl) (by kernel_rfl) (fun _ _ _ h => h) (Or.inl ⟨by rfl, ?_⟩) (by assumption) ?_
      rotate_left
      · (intro w9 hSw; (try dsimp only at hSw); go_simp; all_goals with_reducible rfl)
      (try simp only [Act.put, List.setIfInBounds_toArray, List.set_cons_zero, List.set_cons_succ])
      refine wpAnyH_take (i := 13) (oi := ({ dst := some 75, op := Op.pick (Operand.tmp 72) (Operand.tmp 74) (Operand.const (Value.bool false)), type := 4, pos := "law.go:92", after := #[{ on := 10, ground := Ground.data }, { on := 12, ground := Ground.data }, { on := 8, ground := Ground.guard }], guard := some (8, true) } : Oper)) (v := ?_) rfl (by kernel_rfl) (by kernel_rfl) (by kernel_rfl) (fun _ _ _ h => h) (Or.inl ⟨by rfl, ?_⟩) (by assumption) ?_
      rotate_left
      · (intro w9 hSw; (try dsimp only at hSw); go_simp; all_goals with_reducible rfl)
      (try simp only [Act.put, List.setIfInBounds_toArray, List.set_cons_zero, List.set_cons_succ])
      refine wpAnyH_take (i := 14) (oi := ({ dst := some 76, op := Op.move (Operand.tmp 75), type := 4, pos := "law.go:92", after := #[{ on := 13, ground := Ground.data }, { on := 10, ground := Ground.chain }, { on := 8, ground := Ground.guard }], guard := some (8, true) } : Oper)) (v := ?_) rfl (by kernel_rfl) (by kernel_rfl) (by kernel_rfl) (fun _ _ _ h => h) (Or.inl ⟨by rfl, ?_⟩) (by assumption) ?_
      rotate_left
      · (intro w9 hSw; (try dsimp only at hSw); go_simp; all_goals with_reducible rfl)
      (try simp only [Act.put, List.setIfInBounds_toArray, List.set_cons_zero, List.set_cons_succ])
      refine wpAnyH_take (i := 15) (oi := ({ dst := some 77, op := Op.move (Operand.tmp 16), type := 4, pos := "law.go:92", after := #[{ on := 14, ground := Ground.guard }], guard := some (14, false) } : Oper)) (v := undef) rfl (by kernel_rfl) (by kernel_rfl) (by kernel_rfl) (fun _ _ _ h => h) (Or.inr ⟨by rfl, rfl⟩) (by assumption) ?_
      (try simp only [Act.put, List.setIfInBounds_toArray, List.set_cons_zero, List.set_cons_succ])
      refine wpAnyH_take (i := 16) (oi := ({ dst := some 78, op := Op.unOp UnOp.not 4 (Operand.tmp 77), type := 4, pos := "law.go:92", after := #[{ on := 15, ground := Ground.data }, { on := 14, ground := Ground.guard }], guard := some (14, false) } : Oper)) (v := undef) rfl (by kernel_rfl) (by kernel_rfl) (by kernel_rfl) (fun _ _ _ h => h) (Or.inr ⟨by rfl, rfl⟩) (by assumption) ?_
      (try simp only [Act.put, List.setIfInBounds_toArray, List.set_cons_zero, List.set_cons_succ])
      refine wpAnyH_take (i := 17) (oi := ({ dst := some 79, op := Op.move (Operand.tmp 78), type := 4, pos := "law.go:92", after := #[{ on := 16, ground := Ground.data }, { on := 14, ground := Ground.chain }, { on := 14, ground := Ground.guard }], guard := some (14, false) } : Oper)) (v := undef) rfl (by kernel_rfl) (by kernel_rfl) (by kernel_rfl) (fun _ _ _ h => h) (Or.inr ⟨by rfl, rfl⟩) (by assumption) ?_
      (try simp only [Act.put, List.setIfInBounds_toArray, List.set_cons_zero, List.set_cons_succ])
      refine wpAnyH_take (i := 18) (oi := ({ dst := some 80, op := Op.load 30 (Operand.tmp 15), type := 30, pos := "law.go:92", after := #[{ on := 17, ground := Ground.guard }], guard := some (17, true) } : Oper)) (v := undef) rfl (by kernel_rfl) (by kernel_rfl) (by kernel_rfl) (fun _ _ _ h => h) (Or.inr ⟨by rfl, rfl⟩) (by assumption) ?_
      (try simp only [Act.put, List.setIfInBounds_toArray, List.set_cons_zero, List.set_cons_succ])
      refine wpAnyH_take (i := 19) (oi := ({ dst := some 81, op := Op.call { callee := Callee.value (Operand.func 22), args := #[Operand.const (Value.int IntKind.i64 1)], argTypes := #[2] }, type := 28, pos := "law.go:92", after := #[{ on := 17, ground := Ground.chain }, { on := 17, ground := Ground.guard }], guard := some (17, true) } : Oper)) (v := undef) rfl (by kernel_rfl) (by kernel_rfl) (by kernel_rfl) (fun _ _ _ h => h) (Or.inr ⟨by rfl, rfl⟩) (by assumption) ?_
      (try simp only [Act.put, List.setIfInBounds_toArray, List.set_cons_zero, List.set_cons_succ])
      refine wpAnyH_take (i := 20) (oi := ({ dst := some 82, op := Op.move (Operand.tmp 11), type := 3, pos := "law.go:92", after := #[{ on := 17, ground := Ground.guard }], guard := some (17, true) } : Oper)) (v := undef) rfl (by kernel_rfl) (by kernel_rfl) (by kernel_rfl) (fun _ _ _ h => h) (Or.inr ⟨by rfl, rfl⟩) (by assumption) ?_
      (try simp only [Act.put, List.setIfInBounds_toArray, List.set_cons_zero, List.set_cons_succ])
      refine wpAnyH_take (i := 21) (oi := ({ dst := some 83, op := Op.binOp BinOp.sub 3 (Operand.tmp 82) (Operand.const (Value.int IntKind.i64 52)) 3, type := 3, pos := "law.go:92", after := #[{ on := 20, ground := Ground.data }, { on := 17, ground := Ground.guard }], guard := some (17, true) } : Oper)) (v := undef) rfl (by kernel_rfl) (by kernel_rfl) (by kernel_rfl) (fun _ _ _ h => h) (Or.inr ⟨by rfl, rfl⟩) (by assumption) ?_
      (try simp only [Act.put, List.setIfInBounds_toArray, List.set_cons_zero, List.set_cons_succ])
      refine wpAnyH_take (i := 22) (oi := ({ dst := some 84, op := Op.call { callee := Callee.value (Operand.func 21), args := #[Operand.tmp 81, Operand.tmp 83], argTypes := #[28, 3] }, type := 30, pos := "law.go:92", after := #[{ on := 19, ground := Ground.data }, { on := 21, ground := Ground.data }, { on := 19, ground := Ground.chain }, { on := 17, ground := Ground.guard }], guard := some (17, true) } : Oper)) (v := undef) rfl (by kernel_rfl) (by kernel_rfl) (by kernel_rfl) (fun _ _ _ h => h) (Or.inr ⟨by rfl, rfl⟩) (by assumption) ?_
      (try simp only [Act.put, List.setIfInBounds_toArray, List.set_cons_zero, List.set_cons_succ])
      refine wpAnyH_take (i := 23) (oi := ({ dst := some 85, op := Op.call { callee := Callee.value (Operand.func 20), args := #[Operand.tmp 80, Operand.tmp 84], argTypes := #[30, 30] }, type := 3, pos := "law.go:92", after := #[{ on := 18, ground := Ground.data }, { on := 22, ground := Ground.data }, { on := 22, ground := Ground.chain }, { on := 17, ground := Ground.guard }], guard := some (17, true) } : Oper)) (v := undef) rfl (by kernel_rfl) (by kernel_rfl) (by kernel_rfl) (fun _ _ _ h => h) (Or.inr ⟨by rfl, rfl⟩) (by assumption) ?_
      (try simp only [Act.put, List.setIfInBounds_toArray, List.set_cons_zero, List.set_cons_succ])
      refine wpAnyH_take (i := 24) (oi := ({ dst := some 86, op := Op.binOp BinOp.eql 3 (Operand.tmp 85) (Operand.const (Value.int IntKind.i64 0)) 3, type := 4, pos := "law.go:92", after := #[{ on := 23, ground := Ground.data }, { on := 17, ground := Ground.guard }], guard := some (17, true) } : Oper)) (v := undef) rfl (by kernel_rfl) (by kernel_rfl) (by kernel_rfl) (fun _ _ _ h => h) (Or.inr ⟨by rfl, rfl⟩) (by assumption) ?_
      (try simp only [Act.put, List.setIfInBounds_toArray, List.set_cons_zero, List.set_cons_succ])
      refine wpAnyH_take (i := 25) (oi := ({ dst := some 87, op := Op.pick (Operand.tmp 79) (Operand.tmp 86) (Operand.const (Value.bool false)), type := 4, pos := "law.go:92", after := #[{ on := 17, ground := Ground.data }, { on := 24, ground := Ground.data }, { on := 14, ground := Ground.guard }], guard := some (14, false) } : Oper)) (v := undef) rfl (by kernel_rfl) (by kernel_rfl) (by kernel_rfl) (fun _ _ _ h => h) (Or.inr ⟨by rfl, rfl⟩) (by assumption) ?_
      (try simp only [Act.put, List.setIfInBounds_toArray, List.set_cons_zero, List.set_cons_succ])
      refine wpAnyH_take (i := 26) (oi := ({ dst := some 88, op := Op.pick (Operand.tmp 76) (Operand.const (Value.bool true)) (Operand.tmp 87), type := 4, pos := "law.go:92", after := #[{ on := 14, ground := Ground.data }, { on := 25, ground := Ground.data }, { on := 8, ground := Ground.guard }], guard := some (8, true) } : Oper)) (v := ?_) rfl (by kernel_rfl) (by kernel_rfl) (by kernel_rfl) (fun _ _ _ h => h) (Or.inl ⟨by rfl, ?_⟩) (by assumption) ?_
      rotate_left
      · (intro w9 hSw; (try dsimp only at hSw); go_simp; all_goals with_reducible rfl)
      (try simp only [Act.put, List.setIfInBounds_toArray, List.set_cons_zero, List.set_cons_succ])
      refine wpAnyH_take (i := 27) (oi := ({ dst := some 89, op := Op.pick (Operand.tmp 70) (Operand.tmp 88) (Operand.const (Value.bool false)), type := 4, pos := "law.go:92", after := #[{ on := 8, ground := Ground.data }, { on := 26, ground := Ground.data }], guard := none } : Oper)) (v := ?_) rfl (by kernel_rfl) (by kernel_rfl) (by kernel_rfl) (fun _ _ _ h => h) (Or.inl ⟨by rfl, ?_⟩) (by assumption) ?_
      rotate_left
      · (intro w9 hSw; (try dsimp only at hSw); go_simp; all_goals with_reducible rfl)
      (try simp only [Act.put, List.setIfInBounds_toArray, List.set_cons_zero, List.set_cons_succ])
      refine wpAnyH_take (i := 28) (oi := ({ dst := some 4, op := Op.assign (Operand.tmp 89), type := 4, pos := "law.go:92", after := #[{ on := 27, ground := Ground.data }, { on := 23, ground := Ground.chain }, { on := 0, ground := Ground.phase }, { on := 1, ground := Ground.phase }, { on := 2, ground := Ground.phase }, { on := 3, ground := Ground.phase }, { on := 4, ground := Ground.phase }, { on := 5, ground := Ground.phase }, { on := 6, ground := Ground.phase }, { on := 7, ground := Ground.phase }, { on := 8, ground := Ground.phase }, { on := 9, ground := Ground.phase }, { on := 10, ground := Ground.phase }, { on := 11, ground := Ground.phase }, { on := 12, ground := Ground.phase }, { on := 13, ground := Ground.phase }, { on := 14, ground := Ground.phase }, { on := 15, ground := Ground.phase }, { on := 16, ground := Ground.phase }, { on := 17, ground := Ground.phase }, { on := 18, ground := Ground.phase }, { on := 19, ground := Ground.phase }, { on := 20, ground := Ground.phase }, { on := 21, ground := Ground.phase }, { on := 22, ground := Ground.phase }, { on := 23, ground := Ground.phase }, { on := 24, ground := Ground.phase }, { on := 25, ground := Ground.phase }, { on := 26, ground := Ground.phase }, { on := 27, ground := Ground.phase }], guard := none } : Oper)) (v := ?_) rfl (by kernel_rfl) (by kernel_rfl) (by kernel_rfl) (fun _ _ _ h => h) (Or.inl ⟨by rfl, ?_⟩) (by assumption) ?_
      rotate_left
      · (intro w9 hSw; (try dsimp only at hSw); go_simp; all_goals with_reducible rfl)
      (try simp only [Act.put, List.setIfInBounds_toArray, List.set_cons_zero, List.set_cons_succ])
      refine wpAnyH_done (by kernel_rfl) ?_ _
      go_wp2
      go_ret
      exact ⟨rfl, hb⟩
    · have hg := hcm.2.1 hl
      have hl2 : ¬ a < b := by omega
      have HG := Lib.hid hg; clear hg hcm
      have hb := Below.refl w.heap.size w
      go_enter Tryd.func5, Tryd.ntmps5
      go_wp2_with fail
      with_reducible refine (Bshown_any hT).mono ?_
      rintro e v1 ⟨rfl, hb1⟩
      replace hT := hT.keep hb1
      replace hb := bthen hb hb1
      clear hb1
      go_wp2_with fail
      with_reducible refine (Value_any _ a rfl HL.out.1 hT HF.out.1).mono ?_
      rintro e v2 ⟨A1, n1, c1, rfl, z_x, hb1⟩
      replace hT := hT.keep hb1
      replace hb := bthen hb hb1
      clear hb1
      rw [HQ.out.1] at z_x
      rw [HQ.out.1, HQ.out.2]
      go_wp2_with fail
      have hb1 := below_alloc v2 (.cells #[.bool (ngB Q), .slice A1 n1 c1, .int .i64 E] 30)
      have x_x := Dx.new v2 (ngB Q) A1 n1 c1 E
      have e_x : w.heap.size ≤ v2.heap.size := hb.size
      replace hT := hT.keep hb1
      replace z_x := z_x.keep hb1
      replace hb := bthen hb hb1
      clear hb1
      generalize v2.alloc (.cells #[.bool (ngB Q), .slice A1 n1 c1, .int .i64 E] 30) = v3 at *
      have q_x0 := x_x.c0; have q_x1 := x_x.c1; have f_x0 := x_x.fr 0; have f_x1 := x_x.fr 1; have q_x2 := x_x.c2; have f_x2 := x_x.fr 2
      skip
      with_reducible refine (Value_any _ b rfl HL.out.2 hT HF.out.2).mono ?_
      rintro e v4 ⟨A2, n2, c2, rfl, z_y, hb1⟩
      replace x_x := x_x.keep hb1
      replace hT := hT.keep hb1
      replace z_x := z_x.keep hb1
      replace hb := bthen hb hb1
      clear hb1
      replace q_x0 := x_x.c0; replace q_x1 := x_x.c1; replace f_x0 := x_x.fr 0; replace f_x1 := x_x.fr 1; replace q_x2 := x_x.c2; replace f_x2 := x_x.fr 2
      rw [HR.out.1] at z_y
      rw [HR.out.1, HR.out.2]
      have y_x := (x_x.alloc (.cells #[.bool (ngB R), .slice A2 n2 c2, .int .i64 F] 30)); have yq_x0 := y_x.c0; have yq_x1 := y_x.c1; have yq_x2 := y_x.c2
      go_wp2_with fail
      clear y_x yq_x0 yq_x1 yq_x2
      have hb1 := below_alloc v4 (.cells #[.bool (ngB R), .slice A2 n2 c2, .int .i64 F] 30)
      have l_x_y := x_x.lt
      have x_y := Dx.new v4 (ngB R) A2 n2 c2 F
      have e_y : w.heap.size ≤ v4.heap.size := hb.size
      replace x_x := x_x.keep hb1
      replace hT := hT.keep hb1
      replace z_x := z_x.keep hb1
      replace z_y := z_y.keep hb1
      replace hb := bthen hb hb1
      clear hb1
      replace q_x0 := x_x.c0; replace q_x1 := x_x.c1; replace f_x0 := x_x.fr 0; replace f_x1 := x_x.fr 1; replace q_x2 := x_x.c2; replace f_x2 := x_x.fr 2
      clear q_x0 q_x1 f_x0 f_x1 q_x2 f_x2
      generalize v4.alloc (.cells #[.bool (ngB R), .slice A2 n2 c2, .int .i64 F] 30) = v5 at *
      have q_x0 := x_x.c0; have q_x1 := x_x.c1; have f_x0 := x_x.fr 0; have f_x1 := x_x.fr 1; have q_x2 := x_x.c2; have f_x2 := x_x.fr 2
      have q_y0 := x_y.c0; have q_y1 := x_y.c1; have f_y0 := x_y.fr 0; have f_y1 := x_y.fr 1; have q_y2 := x_y.c2; have f_y2 := x_y.fr 2
      skip
      with_reducible refine (Binade_yes _ a rfl HL.out.1 HN.out).mono ?_
      rintro e v6 ⟨rfl, hb1⟩
      replace x_x := x_x.keep hb1
      replace x_y := x_y.keep hb1
      replace hT := hT.keep hb1
      replace z_x := z_x.keep hb1
      replace z_y := z_y.keep hb1
      replace hb := bthen hb hb1
      clear hb1
      replace q_x0 := x_x.c0; replace q_x1 := x_x.c1; replace f_x0 := x_x.fr 0; replace f_x1 := x_x.fr 1; replace q_x2 := x_x.c2; replace f_x2 := x_x.fr 2
      replace q_y0 := x_y.c0; replace q_y1 := x_y.c1; replace f_y0 := x_y.fr 0; replace f_y1 := x_y.fr 1; replace q_y2 := x_y.c2; replace f_y2 := x_y.fr 2
      go_wp2_with fail
      with_reducible refine (Value_none _ z1 rfl HK.out.2 HK.out.1).mono ?_
      rintro e v7 ⟨rfl, hb1⟩
      replace x_x := x_x.keep hb1
      replace x_y := x_y.keep hb1
      replace hT := hT.keep hb1
      replace z_x := z_x.keep hb1
      replace z_y := z_y.keep hb1
      replace hb := bthen hb hb1
      clear hb1
      replace q_x0 := x_x.c0; replace q_x1 := x_x.c1; replace f_x0 := x_x.fr 0; replace f_x1 := x_x.fr 1; replace q_x2 := x_x.c2; replace f_x2 := x_x.fr 2
      replace q_y0 := x_y.c0; replace q_y1 := x_y.c1; replace f_y0 := x_y.fr 0; replace f_y1 := x_y.fr 1; replace q_y2 := x_y.c2; replace f_y2 := x_y.fr 2
      have y_x := (x_x.alloc (.cells #[.bool false, .slice none 0 0, .int .i64 0] 30)); have yq_x0 := y_x.c0; have yq_x1 := y_x.c1; have yq_x2 := y_x.c2
      have y_y := (x_y.alloc (.cells #[.bool false, .slice none 0 0, .int .i64 0] 30)); have yq_y0 := y_y.c0; have yq_y1 := y_y.c1; have yq_y2 := y_y.c2
      go_wp2_with fail
      clear y_x yq_x0 yq_x1 yq_x2 y_y yq_y0 yq_y1 yq_y2
      have hb1 := below_alloc v7 (.cells #[.bool false, .slice none 0 0, .int .i64 0] 30)
      have l_x_z := x_x.lt
      have l_y_z := x_y.lt
      have x_z := Dx.new v7 false none 0 0 0
      have e_z : w.heap.size ≤ v7.heap.size := hb.size
      replace x_x := x_x.keep hb1
      replace x_y := x_y.keep hb1
      replace hT := hT.keep hb1
      replace z_x := z_x.keep hb1
      replace z_y := z_y.keep hb1
      replace hb := bthen hb hb1
      clear hb1
      replace q_x0 := x_x.c0; replace q_x1 := x_x.c1; replace f_x0 := x_x.fr 0; replace f_x1 := x_x.fr 1; replace q_x2 := x_x.c2; replace f_x2 := x_x.fr 2
      replace q_y0 := x_y.c0; replace q_y1 := x_y.c1; replace f_y0 := x_y.fr 0; replace f_y1 := x_y.fr 1; replace q_y2 := x_y.c2; replace f_y2 := x_y.fr 2
      clear q_x0 q_x1 f_x0 f_x1 q_x2 f_x2 q_y0 q_y1 f_y0 f_y1 q_y2 f_y2
      generalize v7.alloc (.cells #[.bool false, .slice none 0 0, .int .i64 0] 30) = v8 at *
      have q_x0 := x_x.c0; have q_x1 := x_x.c1; have f_x0 := x_x.fr 0; have f_x1 := x_x.fr 1; have q_x2 := x_x.c2; have f_x2 := x_x.fr 2
      have q_y0 := x_y.c0; have q_y1 := x_y.c1; have f_y0 := x_y.fr 0; have f_y1 := x_y.fr 1; have q_y2 := x_y.c2; have f_y2 := x_y.fr 2
      have q_z0 := x_z.c0; have q_z1 := x_z.c1; have f_z0 := x_z.fr 0; have f_z1 := x_z.fr 1; have q_z2 := x_z.c2; have f_z2 := x_z.fr 2
      skip
      with_reducible refine (DSub_any (Zr.zero _) z_x.zr hT 200 (by omega) (by omega) (by omega)).mono ?_
      rintro e v9 ⟨A4, n4, c4, rfl, z_s, hb1⟩
      replace x_x := x_x.keep hb1
      replace x_y := x_y.keep hb1
      replace x_z := x_z.keep hb1
      replace hT := hT.keep hb1
      replace z_x := z_x.keep hb1
      replace z_y := z_y.keep hb1
      replace hb := bthen hb hb1
      clear hb1
      replace q_x0 := x_x.c0; replace q_x1 := x_x.c1; replace f_x0 := x_x.fr 0; replace f_x1 := x_x.fr 1; replace q_x2 := x_x.c2; replace f_x2 := x_x.fr 2
      replace q_y0 := x_y.c0; replace q_y1 := x_y.c1; replace f_y0 := x_y.fr 0; replace f_y1 := x_y.fr 1; replace q_y2 := x_y.c2; replace f_y2 := x_y.fr 2
      replace q_z0 := x_z.c0; replace q_z1 := x_z.c1; replace f_z0 := x_z.fr 0; replace f_z1 := x_z.fr 1; replace q_z2 := x_z.c2; replace f_z2 := x_z.fr 2
      generalize od (alP 0 0 E - alQ Q 0 E) = SX at *
      generalize nE (alP 0 0 E - alQ Q 0 E) (alE 0 E) = SE at *
      have y_x := (x_x.alloc (.cells #[.bool (ngB SX), .slice A4 n4 c4, .int .i64 SE] 30)); have yq_x0 := y_x.c0; have yq_x1 := y_x.c1; have yq_x2 := y_x.c2
      have y_y := (x_y.alloc (.cells #[.bool (ngB SX), .slice A4 n4 c4, .int .i64 SE] 30)); have yq_y0 := y_y.c0; have yq_y1 := y_y.c1; have yq_y2 := y_y.c2
      have y_z := (x_z.alloc (.cells #[.bool (ngB SX), .slice A4 n4 c4, .int .i64 SE] 30)); have yq_z0 := y_z.c0; have yq_z1 := y_z.c1; have yq_z2 := y_z.c2
      go_wp2_with fail
      clear y_x yq_x0 yq_x1 yq_x2 y_y yq_y0 yq_y1 yq_y2 y_z yq_z0 yq_z1 yq_z2
      have hb1 := below_alloc v9 (.cells #[.bool (ngB SX), .slice A4 n4 c4, .int .i64 SE] 30)
      have l_x_s := x_x.lt
      have l_y_s := x_y.lt
      have l_z_s := x_z.lt
      have x_s := Dx.new v9 (ngB SX) A4 n4 c4 SE
      have e_s : w.heap.size ≤ v9.heap.size := hb.size
      replace x_x := x_x.keep hb1
      replace x_y := x_y.keep hb1
      replace x_z := x_z.keep hb1
      replace hT := hT.keep hb1
      replace z_x := z_x.keep hb1
      replace z_y := z_y.keep hb1
      replace z_s := z_s.keep hb1
      replace hb := bthen hb hb1
      clear hb1
      replace q_x0 := x_x.c0; replace q_x1 := x_x.c1; replace f_x0 := x_x.fr 0; replace f_x1 := x_x.fr 1; replace q_x2 := x_x.c2; replace f_x2 := x_x.fr 2
      replace q_y0 := x_y.c0; replace q_y1 := x_y.c1; replace f_y0 := x_y.fr 0; replace f_y1 := x_y.fr 1; replace q_y2 := x_y.c2; replace f_y2 := x_y.fr 2
      replace q_z0 := x_z.c0; replace q_z1 := x_z.c1; replace f_z0 := x_z.fr 0; replace f_z1 := x_z.fr 1; replace q_z2 := x_z.c2; replace f_z2 := x_z.fr 2
      clear q_x0 q_x1 f_x0 f_x1 q_x2 f_x2 q_y0 q_y1 f_y0 f_y1 q_y2 f_y2 q_z0 q_z1 f_z0 f_z1 q_z2 f_z2
      generalize v9.alloc (.cells #[.bool (ngB SX), .slice A4 n4 c4, .int .i64 SE] 30) = v10 at *
      have q_x0 := x_x.c0; have q_x1 := x_x.c1; have f_x0 := x_x.fr 0; have f_x1 := x_x.fr 1; have q_x2 := x_x.c2; have f_x2 := x_x.fr 2
      have q_y0 := x_y.c0; have q_y1 := x_y.c1; have f_y0 := x_y.fr 0; have f_y1 := x_y.fr 1; have q_y2 := x_y.c2; have f_y2 := x_y.fr 2
      have q_z0 := x_z.c0; have q_z1 := x_z.c1; have f_z0 := x_z.fr 0; have f_z1 := x_z.fr 1; have q_z2 := x_z.c2; have f_z2 := x_z.fr 2
      have q_s0 := x_s.c0; have q_s1 := x_s.c1; have f_s0 := x_s.fr 0; have f_s1 := x_s.fr 1; have q_s2 := x_s.c2; have f_s2 := x_s.fr 2
      refine wp_region_held_drew (S := fun w' => w'.cell? ⟨v2.heap.size, 0, none⟩ = some (.bool (ngB Q)) ∧ w'.cell? ⟨v2.heap.size, 1, none⟩ = some (.slice A1 n1 c1) ∧ w'.cell? ⟨v2.heap.size, 2, none⟩ = some (.int .i64 E) ∧ w'.cell? ⟨v4.heap.size, 0, none⟩ = some (.bool (ngB R)) ∧ w'.cell? ⟨v4.heap.size, 1, none⟩ = some (.slice A2 n2 c2) ∧ w'.cell? ⟨v4.heap.size, 2, none⟩ = some (.int .i64 F) ∧ w'.cell? ⟨v9.heap.size, 0, none⟩ = some (.bool (ngB SX)) ∧ w'.cell? ⟨v9.heap.size, 1, none⟩ = some (.slice A4 n4 c4) ∧ w'.cell? ⟨v9.heap.size, 2, none⟩ = some (.int .i64 SE)) (by kernel_rfl) (by exact ⟨x_x.c0, x_x.c1, x_x.c2, x_y.c0, x_y.c1, x_y.c2, x_s.c0, x_s.c1, x_s.c2⟩) (fun hHeld => ?_)
      refine wpAnyH_take (i := 0) (oi := ({ dst := some 62, op := Op.move (Operand.tmp 5), type := 4, pos := "law.go:92", after := #[], guard := none } : Oper)) (v := ?_) rfl (by kernel_rfl) (by kernel_rfl) (by kernel_rfl) (fun _ _ _ h => h) (Or.inl ⟨by rfl, ?_⟩) (by assumption) ?_
      rotate_left
      · (intro w9 hSw; (try dsimp only at hSw); go_simp; all_goals with_reducible rfl)
      (try simp only [Act.put, List.setIfInBounds_toArray, List.set_cons_zero, List.set_cons_succ])
      refine wpAnyH_take (i := 1) (oi := ({ dst := some 63, op := Op.move (Operand.tmp 62), type := 4, pos := "law.go:92", after := #[{ on := 0, ground := Ground.data }], guard := none } : Oper)) (v := ?_) rfl (by kernel_rfl) (by kernel_rfl) (by kernel_rfl) (fun _ _ _ h => h) (Or.inl ⟨by rfl, ?_⟩) (by assumption) ?_
      rotate_left
      · (intro w9 hSw; (try dsimp only at hSw); go_simp; all_goals with_reducible rfl)
      (try simp only [Act.put, List.setIfInBounds_toArray, List.set_cons_zero, List.set_cons_succ])
      refine wpAnyH_take (i := 2) (oi := ({ dst := some 64, op := Op.load 30 (Operand.tmp 6), type := 30, pos := "law.go:92", after := #[{ on := 1, ground := Ground.guard }], guard := some (1, true) } : Oper)) (v := ?_) rfl (by kernel_rfl) (by kernel_rfl) (by kernel_rfl) (fun _ _ _ h => h) (Or.inl ⟨by rfl, ?_⟩) (by assumption) ?_
      rotate_left
      · (intro w9 hSw; (try dsimp only at hSw); go_simp; all_goals with_reducible rfl)
      (try simp only [Act.put, List.setIfInBounds_toArray, List.set_cons_zero, List.set_cons_succ])
      refine wpAnyH_take (i := 3) (oi := ({ dst := some 65, op := Op.load 30 (Operand.tmp 8), type := 30, pos := "law.go:92", after := #[{ on := 1, ground := Ground.guard }], guard := some (1, true) } : Oper)) (v := ?_) rfl (by kernel_rfl) (by kernel_rfl) (by kernel_rfl) (fun _ _ _ h => h) (Or.inl ⟨by rfl, ?_⟩) (by assumption) ?_
      rotate_left
      · (intro w9 hSw; (try dsimp only at hSw); go_simp; all_goals with_reducible rfl)
      (try simp only [Act.put, List.setIfInBounds_toArray, List.set_cons_zero, List.set_cons_succ])
      refine wpAnyH_take (i := 5) (oi := ({ dst := some 67, op := Op.move (Operand.tmp 10), type := 3, pos := "law.go:92", after := #[{ on := 1, ground := Ground.guard }], guard := some (1, true) } : Oper)) (v := ?_) rfl (by kernel_rfl) (by kernel_rfl) (by kernel_rfl) (fun _ _ _ h => h) (Or.inl ⟨by rfl, ?_⟩) (by assumption) ?_
      rotate_left
      · (intro w9 hSw; (try dsimp only at hSw); go_simp; all_goals with_reducible rfl)
      (try simp only [Act.put, List.setIfInBounds_toArray, List.set_cons_zero, List.set_cons_succ])
      refine wpAnyH_ready (rs := [4]) (by kernel_rfl) (by simp) ?_
      refine AllReadyH.cons (o := ({ dst := some 66, op := Op.call { callee := Callee.value (Operand.func 20), args := #[Operand.tmp 64, Operand.tmp 65], argTypes := #[30, 30] }, type := 3, pos := "law.go:92", after := #[{ on := 2, ground := Ground.data }, { on := 3, ground := Ground.data }, { on := 1, ground := Ground.chain }, { on := 1, ground := Ground.guard }], guard := some (1, true) } : Oper)) rfl (fun K hK => ?_) AllReadyH.nil
      go_simp
      with_reducible refine (DCmp_any z_x.zr.drw z_y.zr.drw (by omega) (by omega)).mono ?_
      rintro e v11 ⟨rfl, hb1⟩
      replace hb1 := undrew hb1
      replace x_x := x_x.keep hb1
      replace x_y := x_y.keep hb1
      replace x_z := x_z.keep hb1
      replace x_s := x_s.keep hb1
      replace hT := hT.keep hb1
      replace z_x := z_x.keep hb1
      replace z_y := z_y.keep hb1
      replace z_s := z_s.keep hb1
      replace hb := bthen hb hb1
      clear hb1
      replace q_x0 := x_x.c0; replace q_x1 := x_x.c1; replace f_x0 := x_x.fr 0; replace f_x1 := x_x.fr 1; replace q_x2 := x_x.c2; replace f_x2 := x_x.fr 2
      replace q_y0 := x_y.c0; replace q_y1 := x_y.c1; replace f_y0 := x_y.fr 0; replace f_y1 := x_y.fr 1; replace q_y2 := x_y.c2; replace f_y2 := x_y.fr 2
      replace q_z0 := x_z.c0; replace q_z1 := x_z.c1; replace f_z0 := x_z.fr 0; replace f_z1 := x_z.fr 1; replace q_z2 := x_z.c2; replace f_z2 := x_z.fr 2
      replace q_s0 := x_s.c0; replace q_s1 := x_s.c1; replace f_s0 := x_s.fr 0; replace f_s1 := x_s.fr 1; replace q_s2 := x_s.c2; replace f_s2 := x_s.fr 2
      rw [HC.out, HG.out]
      (try go_wp2_with fail)
      refine hK.out _ _ (by exact ⟨x_x.c0, x_x.c1, x_x.c2, x_y.c0, x_y.c1, x_y.c2, x_s.c0, x_s.c1, x_s.c2⟩) (fun hHeld => ?_)
      clear hK K
      (try simp only [Act.put, List.setIfInBounds_toArray, List.set_cons_zero, List.set_cons_succ])
      refine wpAnyH_take (i := 6) (oi := ({ dst := some 68, op := Op.binOp BinOp.eql 3 (Operand.tmp 66) (Operand.tmp 67) 3, type := 4, pos := "law.go:92", after := #[{ on := 4, ground := Ground.data }, { on := 5, ground := Ground.data }, { on := 1, ground := Ground.guard }], guard := some (1, true) } : Oper)) (v := ?_) rfl (by kernel_rfl) (by kernel_rfl) (by kernel_rfl) (fun _ _ _ h => h) (Or.inl ⟨by rfl, ?_⟩) (by assumption) ?_
      rotate_left
      · (intro w9 hSw; (try dsimp only at hSw); go_simp; all_goals with_reducible rfl)
      (try simp only [Act.put, List.setIfInBounds_toArray, List.set_cons_zero, List.set_cons_succ])
      refine wpAnyH_take (i := 7) (oi := ({ dst := some 69, op := Op.pick (Operand.tmp 63) (Operand.tmp 68) (Operand.const (Value.bool false)), type := 4, pos := "law.go:92", after := #[{ on := 1, ground := Ground.data }, { on := 6, ground := Ground.data }], guard := none } : Oper)) (v := ?_) rfl (by kernel_rfl) (by kernel_rfl) (by kernel_rfl) (fun _ _ _ h => h) (Or.inl ⟨by rfl, ?_⟩) (by assumption) ?_
      rotate_left
      · (intro w9 hSw; (try dsimp only at hSw); go_simp; all_goals with_reducible rfl)
      (try simp only [Act.put, List.setIfInBounds_toArray, List.set_cons_zero, List.set_cons_succ])
      refine wpAnyH_take (i := 8) (oi := ({ dst := some 70, op := Op.move (Operand.tmp 69), type := 4, pos := "law.go:92", after := #[{ on := 7, ground := Ground.data }, { on := 4, ground := Ground.chain }], guard := none } : Oper)) (v := ?_) rfl (by kernel_rfl) (by kernel_rfl) (by kernel_rfl) (fun _ _ _ h => h) (Or.inl ⟨by rfl, ?_⟩) (by assumption) ?_
      rotate_left
      · (intro w9 hSw; (try dsimp only at hSw); go_simp; all_goals with_reducible rfl)
      (try simp only [Act.put, List.setIfInBounds_toArray, List.set_cons_zero, List.set_cons_succ])
      refine wpAnyH_take (i := 9) (oi := ({ dst := some 71, op := Op.move (Operand.tmp 16), type := 4, pos := "law.go:92", after := #[{ on := 8, ground := Ground.guard }], guard := some (8, true) } : Oper)) (v := ?_) rfl (by kernel_rfl) (by kernel_rfl) (by kernel_rfl) (fun _ _ _ h => h) (Or.inl ⟨by rfl, ?_⟩) (by assumption) ?_
      rotate_left
      · (intro w9 hSw; (try dsimp only at hSw); go_simp; all_goals with_reducible rfl)
      (try simp only [Act.put, List.setIfInBounds_toArray, List.set_cons_zero, List.set_cons_succ])
      refine wpAnyH_take (i := 10) (oi := ({ dst := some 72, op := Op.move (Operand.tmp 71), type := 4, pos := "law.go:92", after := #[{ on := 9, ground := Ground.data }, { on := 8, ground := Ground.chain }, { on := 8, ground := Ground.guard }], guard := some (8, true) } : Oper)) (v := ?_) rfl (by kernel_rfl) (by kernel_rfl) (by kernel_rfl) (fun _ _ _ h => h) (Or.inl ⟨by rfl, ?_⟩) (by assumption) ?_
      rotate_left
      · (intro w9 hSw; (try dsimp only at hSw); go_simp; all_goals with_reducible rfl)
      (try simp only [Act.put, List.setIfInBounds_toArray, List.set_cons_zero, List.set_cons_succ])
      refine wpAnyH_take (i := 11) (oi := ({ dst := some 73, op := Op.move (Operand.tmp 14), type := 31, pos := "law.go:92", after := #[{ on := 10, ground := Ground.guard }], guard := some (10, true) } : Oper)) (v := ?_) rfl (by kernel_rfl) (by kernel_rfl) (by kernel_rfl) (fun _ _ _ h => h) (Or.inl ⟨by rfl, ?_⟩) (by assumption) ?_
      rotate_left
      · (intro w9 hSw; (try dsimp only at hSw); go_simp; all_goals with_reducible rfl)
      (try simp only [Act.put, List.setIfInBounds_toArray, List.set_cons_zero, List.set_cons_succ])
      refine wpAnyH_take (i := 12) (oi := ({ dst := some 74, op := Op.binOp BinOp.eql 31 (Operand.tmp 73) (Operand.const (Value.int IntKind.i64 1)) 31, type := 4, pos := "law.go:92", after := #[{ on := 11, ground := Ground.data }, { on := 10, ground := Ground.guard }], guard := some (10, true) } : Oper)) (v := ?_) rfl (by kernel_rfl) (by kernel_rfl) (by kernel_rfl) (fun _ _ _ h => h) (Or.inl ⟨by rfl, ?_⟩) (by assumption) ?_
      rotate_left
      · (intro w9 hSw; (try dsimp only at hSw); go_simp; all_goals with_reducible rfl)
      (try simp only [Act.put, List.setIfInBounds_toArray, List.set_cons_zero, List.set_cons_succ])
      refine wpAnyH_take (i := 13) (oi := ({ dst := some 75, op := Op.pick (Operand.tmp 72) (Operand.tmp 74) (Operand.const (Value.bool false)), type := 4, pos := "law.go:92", after := #[{ on := 10, ground := Ground.data }, { on := 12, ground := Ground.data }, { on := 8, ground := Ground.guard }], guard := some (8, true) } : Oper)) (v := ?_) rfl (by kernel_rfl) (by kernel_rfl) (by kernel_rfl) (fun _ _ _ h => h) (Or.inl ⟨by rfl, ?_⟩) (by assumption) ?_
      rotate_left
      · (intro w9 hSw; (try dsimp only at hSw); go_simp; all_goals with_reducible rfl)
      (try simp only [Act.put, List.setIfInBounds_toArray, List.set_cons_zero, List.set_cons_succ])
      refine wpAnyH_take (i := 14) (oi := ({ dst := some 76, op := Op.move (Operand.tmp 75), type := 4, pos := "law.go:92", after := #[{ on := 13, ground := Ground.data }, { on := 10, ground := Ground.chain }, { on := 8, ground := Ground.guard }], guard := some (8, true) } : Oper)) (v := ?_) rfl (by kernel_rfl) (by kernel_rfl) (by kernel_rfl) (fun _ _ _ h => h) (Or.inl ⟨by rfl, ?_⟩) (by assumption) ?_
      rotate_left
      · (intro w9 hSw; (try dsimp only at hSw); go_simp; all_goals with_reducible rfl)
      (try simp only [Act.put, List.setIfInBounds_toArray, List.set_cons_zero, List.set_cons_succ])
      refine wpAnyH_take (i := 15) (oi := ({ dst := some 77, op := Op.move (Operand.tmp 16), type := 4, pos := "law.go:92", after := #[{ on := 14, ground := Ground.guard }], guard := some (14, false) } : Oper)) (v := undef) rfl (by kernel_rfl) (by kernel_rfl) (by kernel_rfl) (fun _ _ _ h => h) (Or.inr ⟨by rfl, rfl⟩) (by assumption) ?_
      (try simp only [Act.put, List.setIfInBounds_toArray, List.set_cons_zero, List.set_cons_succ])
      refine wpAnyH_take (i := 16) (oi := ({ dst := some 78, op := Op.unOp UnOp.not 4 (Operand.tmp 77), type := 4, pos := "law.go:92", after := #[{ on := 15, ground := Ground.data }, { on := 14, ground := Ground.guard }], guard := some (14, false) } : Oper)) (v := undef) rfl (by kernel_rfl) (by kernel_rfl) (by kernel_rfl) (fun _ _ _ h => h) (Or.inr ⟨by rfl, rfl⟩) (by assumption) ?_
      (try simp only [Act.put, List.setIfInBounds_toArray, List.set_cons_zero, List.set_cons_succ])
      refine wpAnyH_take (i := 17) (oi := ({ dst := some 79, op := Op.move (Operand.tmp 78), type := 4, pos := "law.go:92", after := #[{ on := 16, ground := Ground.data }, { on := 14, ground := Ground.chain }, { on := 14, ground := Ground.guard }], guard := some (14, false) } : Oper)) (v := undef) rfl (by kernel_rfl) (by kernel_rfl) (by kernel_rfl) (fun _ _ _ h => h) (Or.inr ⟨by rfl, rfl⟩) (by assumption) ?_
      (try simp only [Act.put, List.setIfInBounds_toArray, List.set_cons_zero, List.set_cons_succ])
      refine wpAnyH_take (i := 18) (oi := ({ dst := some 80, op := Op.load 30 (Operand.tmp 15), type := 30, pos := "law.go:92", after := #[{ on := 17, ground := Ground.guard }], guard := some (17, true) } : Oper)) (v := undef) rfl (by kernel_rfl) (by kernel_rfl) (by kernel_rfl) (fun _ _ _ h => h) (Or.inr ⟨by rfl, rfl⟩) (by assumption) ?_
      (try simp only [Act.put, List.setIfInBounds_toArray, List.set_cons_zero, List.set_cons_succ])
      refine wpAnyH_take (i := 19) (oi := ({ dst := some 81, op := Op.call { callee := Callee.value (Operand.func 22), args := #[Operand.const (Value.int IntKind.i64 1)], argTypes := #[2] }, type := 28, pos := "law.go:92", after := #[{ on := 17, ground := Ground.chain }, { on := 17, ground := Ground.guard }], guard := some (17, true) } : Oper)) (v := undef) rfl (by kernel_rfl) (by kernel_rfl) (by kernel_rfl) (fun _ _ _ h => h) (Or.inr ⟨by rfl, rfl⟩) (by assumption) ?_
      (try simp only [Act.put, List.setIfInBounds_toArray, List.set_cons_zero, List.set_cons_succ])
      refine wpAnyH_take (i := 20) (oi := ({ dst := some 82, op := Op.move (Operand.tmp 11), type := 3, pos := "law.go:92", after := #[{ on := 17, ground := Ground.guard }], guard := some (17, true) } : Oper)) (v := undef) rfl (by kernel_rfl) (by kernel_rfl) (by kernel_rfl) (fun _ _ _ h => h) (Or.inr ⟨by rfl, rfl⟩) (by assumption) ?_
      (try simp only [Act.put, List.setIfInBounds_toArray, List.set_cons_zero, List.set_cons_succ])
      refine wpAnyH_take (i := 21) (oi := ({ dst := some 83, op := Op.binOp BinOp.sub 3 (Operand.tmp 82) (Operand.const (Value.int IntKind.i64 52)) 3, type := 3, pos := "law.go:92", after := #[{ on := 20, ground := Ground.data }, { on := 17, ground := Ground.guard }], guard := some (17, true) } : Oper)) (v := undef) rfl (by kernel_rfl) (by kernel_rfl) (by kernel_rfl) (fun _ _ _ h => h) (Or.inr ⟨by rfl, rfl⟩) (by assumption) ?_
      (try simp only [Act.put, List.setIfInBounds_toArray, List.set_cons_zero, List.set_cons_succ])
      refine wpAnyH_take (i := 22) (oi := ({ dst := some 84, op := Op.call { callee := Callee.value (Operand.func 21), args := #[Operand.tmp 81, Operand.tmp 83], argTypes := #[28, 3] }, type := 30, pos := "law.go:92", after := #[{ on := 19, ground := Ground.data }, { on := 21, ground := Ground.data }, { on := 19, ground := Ground.chain }, { on := 17, ground := Ground.guard }], guard := some (17, true) } : Oper)) (v := undef) rfl (by kernel_rfl) (by kernel_rfl) (by kernel_rfl) (fun _ _ _ h => h) (Or.inr ⟨by rfl, rfl⟩) (by assumption) ?_
      (try simp only [Act.put, List.setIfInBounds_toArray, List.set_cons_zero, List.set_cons_succ])
      refine wpAnyH_take (i := 23) (oi := ({ dst := some 85, op := Op.call { callee := Callee.value (Operand.func 20), args := #[Operand.tmp 80, Operand.tmp 84], argTypes := #[30, 30] }, type := 3, pos := "law.go:92", after := #[{ on := 18, ground := Ground.data }, { on := 22, ground := Ground.data }, { on := 22, ground := Ground.chain }, { on := 17, ground := Ground.guard }], guard := some (17, true) } : Oper)) (v := undef) rfl (by kernel_rfl) (by kernel_rfl) (by kernel_rfl) (fun _ _ _ h => h) (Or.inr ⟨by rfl, rfl⟩) (by assumption) ?_
      (try simp only [Act.put, List.setIfInBounds_toArray, List.set_cons_zero, List.set_cons_succ])
      refine wpAnyH_take (i := 24) (oi := ({ dst := some 86, op := Op.binOp BinOp.eql 3 (Operand.tmp 85) (Operand.const (Value.int IntKind.i64 0)) 3, type := 4, pos := "law.go:92", after := #[{ on := 23, ground := Ground.data }, { on := 17, ground := Ground.guard }], guard := some (17, true) } : Oper)) (v := undef) rfl (by kernel_rfl) (by kernel_rfl) (by kernel_rfl) (fun _ _ _ h => h) (Or.inr ⟨by rfl, rfl⟩) (by assumption) ?_
      (try simp only [Act.put, List.setIfInBounds_toArray, List.set_cons_zero, List.set_cons_succ])
      refine wpAnyH_take (i := 25) (oi := ({ dst := some 87, op := Op.pick (Operand.tmp 79) (Operand.tmp 86) (Operand.const (Value.bool false)), type := 4, pos := "law.go:92", after := #[{ on := 17, ground := Ground.data }, { on := 24, ground := Ground.data }, { on := 14, ground := Ground.guard }], guard := some (14, false) } : Oper)) (v := undef) rfl (by kernel_rfl) (by kernel_rfl) (by kernel_rfl) (fun _ _ _ h => h) (Or.inr ⟨by rfl, rfl⟩) (by assumption) ?_
      (try simp only [Act.put, List.setIfInBounds_toArray, List.set_cons_zero, List.set_cons_succ])
      refine wpAnyH_take (i := 26) (oi := ({ dst := some 88, op := Op.pick (Operand.tmp 76) (Operand.const (Value.bool true)) (Operand.tmp 87), type := 4, pos := "law.go:92", after := #[{ on := 14, ground := Ground.data }, { on := 25, ground := Ground.data }, { on := 8, ground := Ground.guard }], guard := some (8, true) } : Oper)) (v := ?_) rfl (by kernel_rfl) (by kernel_rfl) (by kernel_rfl) (fun _ _ _ h => h) (Or.inl ⟨by rfl, ?_⟩) (by assumption) ?_
      rotate_left
      · (intro w9 hSw; (try dsimp only at hSw); go_simp; all_goals with_reducible rfl)
      (try simp only [Act.put, List.setIfInBounds_toArray, List.set_cons_zero, List.set_cons_succ])
      refine wpAnyH_take (i := 27) (oi := ({ dst := some 89, op := Op.pick (Operand.tmp 70) (Operand.tmp 88) (Operand.const (Value.bool false)), type := 4, pos := "law.go:92", after := #[{ on := 8, ground := Ground.data }, { on := 26, ground := Ground.data }], guard := none } : Oper)) (v := ?_) rfl (by kernel_rfl) (by kernel_rfl) (by kernel_rfl) (fun _ _ _ h => h) (Or.inl ⟨by rfl, ?_⟩) (by assumption) ?_
      rotate_left
      · (intro w9 hSw; (try dsimp only at hSw); go_simp; all_goals with_reducible rfl)
      (try simp only [Act.put, List.setIfInBounds_toArray, List.set_cons_zero, List.set_cons_succ])
      refine wpAnyH_take (i := 28) (oi := ({ dst := some 4, op := Op.assign (Operand.tmp 89), type := 4, pos := "law.go:92", after := #[{ on := 27, ground := Ground.data }, { on := 23, ground := Ground.chain }, { on := 0, ground := Ground.phase }, { on := 1, ground := Ground.phase }, { on := 2, ground := Ground.phase }, { on := 3, ground := Ground.phase }, { on := 4, ground := Ground.phase }, { on := 5, ground := Ground.phase }, { on := 6, ground := Ground.phase }, { on := 7, ground := Ground.phase }, { on := 8, ground := Ground.phase }, { on := 9, ground := Ground.phase }, { on := 10, ground := Ground.phase }, { on := 11, ground := Ground.phase }, { on := 12, ground := Ground.phase }, { on := 13, ground := Ground.phase }, { on := 14, ground := Ground.phase }, { on := 15, ground := Ground.phase }, { on := 16, ground := Ground.phase }, { on := 17, ground := Ground.phase }, { on := 18, ground := Ground.phase }, { on := 19, ground := Ground.phase }, { on := 20, ground := Ground.phase }, { on := 21, ground := Ground.phase }, { on := 22, ground := Ground.phase }, { on := 23, ground := Ground.phase }, { on := 24, ground := Ground.phase }, { on := 25, ground := Ground.phase }, { on := 26, ground := Ground.phase }, { on := 27, ground := Ground.phase }], guard := none } : Oper)) (v := ?_) rfl (by kernel_rfl) (by kernel_rfl) (by kernel_rfl) (fun _ _ _ h => h) (Or.inl ⟨by rfl, ?_⟩) (by assumption) ?_
      rotate_left
      · (intro w9 hSw; (try dsimp only at hSw); go_simp; all_goals with_reducible rfl)
      (try simp only [Act.put, List.setIfInBounds_toArray, List.set_cons_zero, List.set_cons_succ])
      refine wpAnyH_done (by kernel_rfl) ?_ _
      go_wp2
      go_ret
      exact ⟨rfl, hb⟩

end Go.Proofs.YthbodamihiddhaaDoor
