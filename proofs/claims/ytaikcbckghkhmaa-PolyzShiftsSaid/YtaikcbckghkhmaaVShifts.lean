/-
  polyz: PolyzShifts.
-/
import Derived.Test.YtaikcbckghkhmaaVlaw
import Derived.Test.YtaikcbckghkhmaaVstr
import Derived.Test.YtaikcbckghkhmaaVval
namespace Go.Proofs.Ytaikcbckghkhmaa
open Go.RowKit
open MP.Se (nf co)
set_option linter.unusedVariables false
set_option maxRecDepth 100000

theorem sh_two {p : MP.Se} (h : MP.Se.Fn p) (X Y : Int) : MP.Se.pu (MP.Se.pu p (MP.Se.xa X)) (MP.Se.xa Y) = MP.Se.pu p (MP.Se.xa (X + Y)) := by rw [MP.Se.pu_pu h (MP.Se.Fn.xa X), MP.Se.pu_xa, Int.add_comm]
theorem st_two {p : MP.Se} (h : MP.Se.Fn p) (X Y : Int) : MP.Se.pu (MP.Se.pu p (MP.Se.xc X)) (MP.Se.xc Y) = MP.Se.pu p (MP.Se.xc (X * Y)) := by rw [MP.Se.pu_pu h (MP.Se.Fn.xc X), MP.Se.pu_xc]
theorem sh_vl {p : MP.Se} (h : MP.Se.Fn p) (X Y : Int) : MP.Se.vl (MP.Se.pu p (MP.Se.xa X)) Y = MP.Se.vl p (X + Y) := by rw [MP.Se.vl_pu h (MP.Se.Fn.xa X), MP.Se.vl_xa]
theorem st_vl {p : MP.Se} (h : MP.Se.Fn p) (X Y : Int) : MP.Se.vl (MP.Se.pu p (MP.Se.xc X)) Y = MP.Se.vl p (X * Y) := by rw [MP.Se.vl_pu h (MP.Se.Fn.xc X), MP.Se.vl_xc]
theorem sh_back {p : MP.Se} (h : MP.Se.Fn p) (X : Int) : MP.Se.pu (MP.Se.pu p (MP.Se.xa X)) (MP.Se.xa (-X)) = p := by rw [sh_two h, Int.add_right_neg, MP.Se.xa_zero, MP.Se.pu_x h]
set_option maxHeartbeats 2000000 in
/-- The law. -/
theorem PolyzShifts_any {A B C : Option Addr} {kp cp ka ca kb cb : Nat} {ba bb : Bool} {lp la lb : List Int} {w : World} (ap : Pa w A kp cp lp) (ga : Rd w w.heap.size B ka ca la) (gb : Rd w w.heap.size C kb cb lb) :
    Calls Try.prog 6 #[.slice A kp cp, .agg #[.bool ba, .slice B ka ca], .agg #[.bool bb, .slice C kb cb]] w fun e w' => e = .returned (.bool true) ∧ Below w.heap.size w w' := by
  have hbig := ga.big
  have hbig2 := gb.big
  obtain ⟨X, za⟩ := Zr.of_rd (b := ba) ga
  obtain ⟨Y, zb⟩ := Zr.of_rd (b := bb) gb
  clear ga gb
  go_enter Try.func6, Try.ntmps6
  go_wp2_with fail
  refine al2c fun v1 hb x_a x_b => ?_
  replace x_a := Bx.of x_a; replace x_b := Bx.of x_b
  obtain ⟨ap, za, zb⟩ := mv3 hb ap za zb
  have q_a := x_a.al
  have q_b := x_b.al
  go_wp2_with fail
  with_reducible refine (Lshown_any).mono ?_
  rintro e v2 ⟨rfl, hb1⟩
  obtain ⟨x_a, x_b, ap, za, zb, hb⟩ := mv6 hb1 x_a x_b ap za zb hb
  clear hb1
  replace q_a := x_a.al
  replace q_b := x_b.al
  go_wp2_with fail
  with_reducible refine (Llittle_any ap).mono ?_
  rintro e v3 ⟨β, rfl, h1, hb1⟩
  obtain ⟨x_a, x_b, ap, za, zb, hb⟩ := mv6 hb1 x_a x_b ap za zb hb
  clear hb1
  replace q_a := x_a.al
  replace q_b := x_b.al
  cases β
  · go_wp2; go_ret; exact ⟨rfl, hb⟩
  obtain ⟨ep, np, pp⟩ := h1 rfl
  clear h1 ap
  by_cases hxa : ka ≤ 1
  rotate_left
  · have hx2 : (1 : Int) < ka := by omega
    go_wp2; go_ret; exact ⟨rfl, hb⟩
  replace za := za.kto hxa
  by_cases hxb : kb ≤ 1
  rotate_left
  · have hx2 : (1 : Int) < kb := by omega
    go_wp2; go_ret; exact ⟨rfl, hb⟩
  replace zb := zb.kto hxb
  go_wp2_with fail
  with_reducible refine (RAddZ_any za zb 2 (by omega) (by omega) (by omega)).mono ?_
  rintro e v4 ⟨As, ks, cs, rfl, zs, hb1⟩
  obtain ⟨x_a, x_b, za, zb, pp, hb⟩ := mv6 hb1 x_a x_b za zb pp hb
  clear hb1
  replace q_a := x_a.al
  replace q_b := x_b.al
  go_upto_region 5 with fail
  have l_a_s := x_a.lt
  have l_b_s := x_b.lt
  have e_s : w.heap.size ≤ v4.heap.size := hb.size
  clear q_a q_b
  refine al1 fun v5 hb1 x_s => ?_
  replace x_s := Bx.of x_s
  obtain ⟨x_a, x_b, za, zb, pp, zs, hb⟩ := mv7 hb1 x_a x_b za zb pp zs hb
  clear hb1
  have q_a := x_a.al
  have q_b := x_b.al
  have q_s := x_s.al
  go_upto_region 5 with fail
  go_region_held3 (fun w' => w'.cell? ⟨w.heap.size, 0, none⟩ = some (.bool ba) ∧ w'.cell? ⟨w.heap.size, 1, none⟩ = some (.slice B ka ca) ∧ w'.cell? ⟨w.heap.size + 1, 0, none⟩ = some (.bool bb) ∧ w'.cell? ⟨w.heap.size + 1, 1, none⟩ = some (.slice C kb cb) ∧ w'.cell? ⟨v4.heap.size, 0, none⟩ = some (.bool (ngB (X + Y))) ∧ w'.cell? ⟨v4.heap.size, 1, none⟩ = some (.slice As ks cs))
    (first | (with_reducible exact ⟨x_a.c0, x_a.c1, x_b.c0, x_b.c1, x_s.c0, x_s.c1⟩) | go_keep)
    (first | (go_at_call 16; (with_reducible refine (PShift_any (J := 1) (J2 := 1) (K := 120) pp.pd.drw za.drw (by omega) (by have := Nat.mul_le_mul np (show 1 + 2 * kp + 2 ≤ 17 by omega); omega) (by omega)).mono ?_); rintro e v6 ⟨L1, m1, hL, A1, k1, c1, rfl, p1, hb1⟩; replace hb1 := undrew hb1; obtain ⟨x_a, x_b, x_s, za, zb, pp, zs, hb⟩ := mv8 hb1 x_a x_b x_s za zb pp zs hb; clear hb1; replace q_a := x_a.al; replace q_b := x_b.al; replace q_s := x_s.al; have e1 : Lb L1 (MP.Se.pu (co lp) (MP.Se.xa (X))) 7 := ⟨hL.trans (by rw [ep.out]), MP.Se.pu_bd ep.bd (MP.Se.Bd.xa _)⟩; have n1 := e1.len m1 p1.pd.len; clear hL) | (go_at_call 16; (with_reducible refine (PShift_any (J := 120) (J2 := 1) (K := 239) p1.pd zb (by omega) (by have := Nat.mul_le_mul n1 (show 1 + 2 * k1 + 2 ≤ 17 by omega); omega) (by omega)).mono ?_); rintro e v7 ⟨L2, m2, hL, A2, k2, c2, rfl, p2, hb1⟩; obtain ⟨x_a, x_b, x_s, za, zb, pp, zs, p1, hb⟩ := mv9 hb1 x_a x_b x_s za zb pp zs p1 hb; clear hb1; replace q_a := x_a.al; replace q_b := x_b.al; replace q_s := x_s.al; have e2 : Lb L2 (MP.Se.pu (MP.Se.pu (co lp) (MP.Se.xa (X))) (MP.Se.xa (Y))) 7 := ⟨hL.trans (by rw [e1.out]), MP.Se.pu_bd e1.bd (MP.Se.Bd.xa _)⟩; have n2 := e2.len m2 p2.pd.len; clear hL) | (go_at_call 16; (with_reducible refine (PShift_any (J := 1) (J2 := 2) (K := 127) pp.pd zs.zr (by omega) (by have := Nat.mul_le_mul np (show 2 + 2 * kp + 2 ≤ 18 by omega); omega) (by omega)).mono ?_); rintro e v8 ⟨L3, m3, hL, A3, k3, c3, rfl, p3, hb1⟩; obtain ⟨x_a, x_b, x_s, za, zb, pp, zs, p1, p2⟩ := mv9 hb1 x_a x_b x_s za zb pp zs p1 p2; replace hb := Mv.mv hb hb1; clear hb1; replace q_a := x_a.al; replace q_b := x_b.al; replace q_s := x_s.al; have e3 : Lb L3 (MP.Se.pu (co lp) (MP.Se.xa (X + Y))) 7 := ⟨hL.trans (by rw [ep.out]), MP.Se.pu_bd ep.bd (MP.Se.Bd.xa _)⟩; have n3 := e3.len m3 p3.pd.len; clear hL) | (go_at_call 15; (with_reducible refine (Lsame_any p2.pn p3.pn).mono ?_); rintro e v9 ⟨rfl, hb1⟩; obtain ⟨x_a, x_b, x_s, za, zb, pp, zs, p1, p2⟩ := mv9 hb1 x_a x_b x_s za zb pp zs p1 p2; obtain ⟨p3, hb⟩ := mv2 hb1 p3 hb; clear hb1; replace q_a := x_a.al; replace q_b := x_b.al; replace q_s := x_s.al; rw [e2.same e3 m2 m3 (sh_two ep.fn X Y)]) | (go_at_call 16; (with_reducible refine (PShift_any (J := 1) (J2 := 1) (K := 120) pp.pd za (by omega) (by have := Nat.mul_le_mul np (show 1 + 2 * kp + 2 ≤ 17 by omega); omega) (by omega)).mono ?_); rintro e v10 ⟨L4, m4, hL, A4, k4, c4, rfl, p4, hb1⟩; obtain ⟨x_a, x_b, x_s, za, zb, pp, zs, p1, p2⟩ := mv9 hb1 x_a x_b x_s za zb pp zs p1 p2; obtain ⟨p3, hb⟩ := mv2 hb1 p3 hb; clear hb1; replace q_a := x_a.al; replace q_b := x_b.al; replace q_s := x_s.al; have e4 : Lb L4 (MP.Se.pu (co lp) (MP.Se.xa (X))) 7 := ⟨hL.trans (by rw [ep.out]), MP.Se.pu_bd ep.bd (MP.Se.Bd.xa _)⟩; have n4 := e4.len m4 p4.pd.len; clear hL) | (go_at_call 27; (with_reducible refine (PValue_any (J := 120) (J2 := 1) p4.pd zb (by omega)).mono ?_); rintro e v11 ⟨A5, k5, c5, rfl, y5, hb1⟩; obtain ⟨x_a, x_b, x_s, za, zb, pp, zs, p1, p2⟩ := mv9 hb1 x_a x_b x_s za zb pp zs p1 p2; obtain ⟨p3, p4, hb⟩ := mv3 hb1 p3 p4 hb; clear hb1; replace q_a := x_a.al; replace q_b := x_b.al; replace q_s := x_s.al; rw [e4.out] at y5 ⊢) | (go_at_call 27; (with_reducible refine (PValue_any (J := 1) (J2 := 2) pp.pd zs.zr (by omega)).mono ?_); rintro e v12 ⟨A6, k6, c6, rfl, y6, hb1⟩; obtain ⟨x_a, x_b, x_s, za, zb, pp, zs, p1, p2⟩ := mv9 hb1 x_a x_b x_s za zb pp zs p1 p2; obtain ⟨p3, p4, y5, hb⟩ := mv4 hb1 p3 p4 y5 hb; clear hb1; replace q_a := x_a.al; replace q_b := x_b.al; replace q_s := x_s.al; rw [ep.out] at y6 ⊢) | (go_at_call 28; (with_reducible refine (RExact_any y5 y6).mono ?_); rintro e v13 ⟨rfl, hb1⟩; obtain ⟨x_a, x_b, x_s, za, zb, pp, zs, p1, p2⟩ := mv9 hb1 x_a x_b x_s za zb pp zs p1 p2; obtain ⟨p3, p4, y5, y6, hb⟩ := mv5 hb1 p3 p4 y5 y6 hb; clear hb1; replace q_a := x_a.al; replace q_b := x_b.al; replace q_s := x_s.al; rw [show decide (MP.Se.vl (MP.Se.pu (co lp) (MP.Se.xa (X))) (Y) = MP.Se.vl (co lp) (X + Y)) = true from decide_eq_true (sh_vl ep.fn X Y)]))
  clear p1
  clear e1 m1
  clear p2
  clear e2 m2
  clear p3
  clear e3 m3
  clear p4
  clear e4 m4
  clear y5
  clear y6
  go_upto_region 6 with fail
  have once := True.intro
  go_region_held3 (fun w' => w'.cell? ⟨w.heap.size, 0, none⟩ = some (.bool ba) ∧ w'.cell? ⟨w.heap.size, 1, none⟩ = some (.slice B ka ca) ∧ w'.cell? ⟨w.heap.size + 1, 0, none⟩ = some (.bool bb) ∧ w'.cell? ⟨w.heap.size + 1, 1, none⟩ = some (.slice C kb cb))
    (first | (with_reducible exact ⟨x_a.c0, x_a.c1, x_b.c0, x_b.c1⟩) | go_keep)
    (first | (go_at_call 18; (with_reducible refine (PStretch_any (J := 1) (J2 := 1) (K := 9) pp.pd.drw za.drw (by have := Nat.mul_le_mul np (Nat.le_refl 1); omega) (by omega)).mono ?_); rintro e v14 ⟨L7, m7, hL, A7, k7, c7, rfl, p7, hb1⟩; replace hb1 := undrew hb1; obtain ⟨x_a, x_b, x_s, za, zb, pp, zs, hb⟩ := mv8 hb1 x_a x_b x_s za zb pp zs hb; clear hb1; replace q_a := x_a.al; replace q_b := x_b.al; replace q_s := x_s.al; have e7 : Lb L7 (MP.Se.pu (co lp) (MP.Se.xc (X))) 7 := ⟨hL.trans (by rw [ep.out]), MP.Se.pu_bd ep.bd (MP.Se.Bd.xc _)⟩; have n7 := e7.len m7 p7.pd.len; clear hL) | (go_at_call 18; (with_reducible refine (PStretch_any (J := 9) (J2 := 1) (K := 17) p7.pd zb (by have := Nat.mul_le_mul n7 (Nat.le_refl 1); omega) (by omega)).mono ?_); rintro e v15 ⟨L8, m8, hL, A8, k8, c8, rfl, p8, hb1⟩; obtain ⟨x_a, x_b, x_s, za, zb, pp, zs, p7, hb⟩ := mv9 hb1 x_a x_b x_s za zb pp zs p7 hb; clear hb1; replace q_a := x_a.al; replace q_b := x_b.al; replace q_s := x_s.al; have e8 : Lb L8 (MP.Se.pu (MP.Se.pu (co lp) (MP.Se.xc (X))) (MP.Se.xc (Y))) 7 := ⟨hL.trans (by rw [e7.out]), MP.Se.pu_bd e7.bd (MP.Se.Bd.xc _)⟩; have n8 := e8.len m8 p8.pd.len; clear hL) | (clear once; go_at_call 31; (with_reducible refine (RMulZ_any za zb 2 (by omega) (by omega)).mono ?_); rintro e v16 ⟨A9, k9, c9, rfl, y9, hb1⟩; obtain ⟨x_a, x_b, x_s, za, zb, pp, zs, p7, p8⟩ := mv9 hb1 x_a x_b x_s za zb pp zs p7 p8; replace hb := Mv.mv hb hb1; clear hb1; replace q_a := x_a.al; replace q_b := x_b.al; replace q_s := x_s.al) | (go_at_call 18; (with_reducible refine (PStretch_any (J := 1) (J2 := 2) (K := 16) pp.pd y9.zr (by have := Nat.mul_le_mul np (Nat.le_refl 2); omega) (by omega)).mono ?_); rintro e v17 ⟨L10, m10, hL, A10, k10, c10, rfl, p10, hb1⟩; obtain ⟨x_a, x_b, x_s, za, zb, pp, zs, p7, p8⟩ := mv9 hb1 x_a x_b x_s za zb pp zs p7 p8; obtain ⟨y9, hb⟩ := mv2 hb1 y9 hb; clear hb1; replace q_a := x_a.al; replace q_b := x_b.al; replace q_s := x_s.al; have e10 : Lb L10 (MP.Se.pu (co lp) (MP.Se.xc (X * Y))) 7 := ⟨hL.trans (by rw [ep.out]), MP.Se.pu_bd ep.bd (MP.Se.Bd.xc _)⟩; have n10 := e10.len m10 p10.pd.len; clear hL) | (go_at_call 15; (with_reducible refine (Lsame_any p8.pn p10.pn).mono ?_); rintro e v18 ⟨rfl, hb1⟩; obtain ⟨x_a, x_b, x_s, za, zb, pp, zs, p7, p8⟩ := mv9 hb1 x_a x_b x_s za zb pp zs p7 p8; obtain ⟨y9, p10, hb⟩ := mv3 hb1 y9 p10 hb; clear hb1; replace q_a := x_a.al; replace q_b := x_b.al; replace q_s := x_s.al; rw [e8.same e10 m8 m10 (st_two ep.fn X Y)]) | (go_at_call 18; (with_reducible refine (PStretch_any (J := 1) (J2 := 1) (K := 9) pp.pd za (by have := Nat.mul_le_mul np (Nat.le_refl 1); omega) (by omega)).mono ?_); rintro e v19 ⟨L11, m11, hL, A11, k11, c11, rfl, p11, hb1⟩; obtain ⟨x_a, x_b, x_s, za, zb, pp, zs, p7, p8⟩ := mv9 hb1 x_a x_b x_s za zb pp zs p7 p8; obtain ⟨y9, p10, hb⟩ := mv3 hb1 y9 p10 hb; clear hb1; replace q_a := x_a.al; replace q_b := x_b.al; replace q_s := x_s.al; have e11 : Lb L11 (MP.Se.pu (co lp) (MP.Se.xc (X))) 7 := ⟨hL.trans (by rw [ep.out]), MP.Se.pu_bd ep.bd (MP.Se.Bd.xc _)⟩; have n11 := e11.len m11 p11.pd.len; clear hL) | (go_at_call 27; (with_reducible refine (PValue_any (J := 9) (J2 := 1) p11.pd zb (by omega)).mono ?_); rintro e v20 ⟨A12, k12, c12, rfl, y12, hb1⟩; obtain ⟨x_a, x_b, x_s, za, zb, pp, zs, p7, p8⟩ := mv9 hb1 x_a x_b x_s za zb pp zs p7 p8; obtain ⟨y9, p10, p11, hb⟩ := mv4 hb1 y9 p10 p11 hb; clear hb1; replace q_a := x_a.al; replace q_b := x_b.al; replace q_s := x_s.al; rw [e11.out] at y12 ⊢) | (go_at_call 31; (with_reducible refine (RMulZ_any za zb 2 (by omega) (by omega)).mono ?_); rintro e v21 ⟨A13, k13, c13, rfl, y13, hb1⟩; obtain ⟨x_a, x_b, x_s, za, zb, pp, zs, p7, p8⟩ := mv9 hb1 x_a x_b x_s za zb pp zs p7 p8; obtain ⟨y9, p10, p11, y12, hb⟩ := mv5 hb1 y9 p10 p11 y12 hb; clear hb1; replace q_a := x_a.al; replace q_b := x_b.al; replace q_s := x_s.al) | (go_at_call 27; (with_reducible refine (PValue_any (J := 1) (J2 := 2) pp.pd y13.zr (by omega)).mono ?_); rintro e v22 ⟨A14, k14, c14, rfl, y14, hb1⟩; obtain ⟨x_a, x_b, x_s, za, zb, pp, zs, p7, p8⟩ := mv9 hb1 x_a x_b x_s za zb pp zs p7 p8; obtain ⟨y9, p10, p11, y12, y13, hb⟩ := mv6 hb1 y9 p10 p11 y12 y13 hb; clear hb1; replace q_a := x_a.al; replace q_b := x_b.al; replace q_s := x_s.al; rw [ep.out] at y14 ⊢) | (go_at_call 28; (with_reducible refine (RExact_any y12 y14).mono ?_); rintro e v23 ⟨rfl, hb1⟩; obtain ⟨x_a, x_b, x_s, za, zb, pp, zs, p7, p8⟩ := mv9 hb1 x_a x_b x_s za zb pp zs p7 p8; obtain ⟨y9, p10, p11, y12, y13, y14, hb⟩ := mv7 hb1 y9 p10 p11 y12 y13 y14 hb; clear hb1; replace q_a := x_a.al; replace q_b := x_b.al; replace q_s := x_s.al; rw [show decide (MP.Se.vl (MP.Se.pu (co lp) (MP.Se.xc (X))) (Y) = MP.Se.vl (co lp) (X * Y)) = true from decide_eq_true (st_vl ep.fn X Y)]))
  clear p7
  clear e7 m7
  clear p8
  clear e8 m8
  clear p10
  clear e10 m10
  clear p11
  clear e11 m11
  clear y9
  clear y12
  clear y13
  clear y14
  go_upto_region 7 with fail
  go_region_held3 (fun w' => w'.cell? ⟨w.heap.size, 0, none⟩ = some (.bool ba) ∧ w'.cell? ⟨w.heap.size, 1, none⟩ = some (.slice B ka ca))
    (first | (with_reducible exact ⟨x_a.c0, x_a.c1⟩) | go_keep)
    (first | (go_at_call 16; (with_reducible refine (PShift_any (J := 1) (J2 := 1) (K := 120) pp.pd.drw za.drw (by omega) (by have := Nat.mul_le_mul np (show 1 + 2 * kp + 2 ≤ 17 by omega); omega) (by omega)).mono ?_); rintro e v24 ⟨L15, m15, hL, A15, k15, c15, rfl, p15, hb1⟩; replace hb1 := undrew hb1; obtain ⟨x_a, x_b, x_s, za, zb, pp, zs, hb⟩ := mv8 hb1 x_a x_b x_s za zb pp zs hb; clear hb1; replace q_a := x_a.al; replace q_b := x_b.al; replace q_s := x_s.al; have e15 : Lb L15 (MP.Se.pu (co lp) (MP.Se.xa (X))) 7 := ⟨hL.trans (by rw [ep.out]), MP.Se.pu_bd ep.bd (MP.Se.Bd.xa _)⟩; have n15 := e15.len m15 p15.pd.len; clear hL) | (go_at_call 32; (with_reducible refine (RNegZ_any za 1 (by omega) (by omega)).mono ?_); rintro e v25 ⟨A16, k16, c16, rfl, y16, hb1⟩; obtain ⟨x_a, x_b, x_s, za, zb, pp, zs, p15, hb⟩ := mv9 hb1 x_a x_b x_s za zb pp zs p15 hb; clear hb1; replace q_a := x_a.al; replace q_b := x_b.al; replace q_s := x_s.al) | (go_at_call 16; (with_reducible refine (PShift_any (J := 120) (J2 := 1) (K := 239) p15.pd y16.zr (by omega) (by have := Nat.mul_le_mul n15 (show 1 + 2 * k15 + 2 ≤ 17 by omega); omega) (by omega)).mono ?_); rintro e v26 ⟨L17, m17, hL, A17, k17, c17, rfl, p17, hb1⟩; obtain ⟨x_a, x_b, x_s, za, zb, pp, zs, p15, y16⟩ := mv9 hb1 x_a x_b x_s za zb pp zs p15 y16; replace hb := Mv.mv hb hb1; clear hb1; replace q_a := x_a.al; replace q_b := x_b.al; replace q_s := x_s.al; have e17 : Lb L17 (MP.Se.pu (MP.Se.pu (co lp) (MP.Se.xa (X))) (MP.Se.xa (-X))) 7 := ⟨hL.trans (by rw [e15.out]), MP.Se.pu_bd e15.bd (MP.Se.Bd.xa _)⟩; have n17 := e17.len m17 p17.pd.len; clear hL))
  go_wp2_with fail
  with_reducible refine (PNormS_any (J := 1) pp.pd (by omega)).mono ?_
  rintro e v27 ⟨L18, m18, hL, A18, k18, c18, rfl, p18, hb1⟩
  obtain ⟨x_a, x_b, x_s, za, zb, pp, zs, p15, y16⟩ := mv9 hb1 x_a x_b x_s za zb pp zs p15 y16
  obtain ⟨p17, hb⟩ := mv2 hb1 p17 hb
  clear hb1
  replace q_a := x_a.al
  replace q_b := x_b.al
  replace q_s := x_s.al
  have e18 : Lb L18 (co lp) 7 := ⟨hL.trans (by rw [ep.out]), ep.bd⟩
  have n18 := e18.len m18 p18.pd.len
  clear hL
  go_wp2_with fail
  with_reducible refine (Lsame_any p17.pn p18.pn).mono ?_
  rintro e v28 ⟨rfl, hb1⟩
  obtain ⟨x_a, x_b, x_s, za, zb, pp, zs, p15, y16⟩ := mv9 hb1 x_a x_b x_s za zb pp zs p15 y16
  obtain ⟨p17, p18, hb⟩ := mv3 hb1 p17 p18 hb
  clear hb1
  replace q_a := x_a.al
  replace q_b := x_b.al
  replace q_s := x_s.al
  rw [e17.same e18 m17 m18 (sh_back ep.fn X)]
  go_wp2
  go_ret
  exact ⟨rfl, hb⟩
end Go.Proofs.Ytaikcbckghkhmaa
