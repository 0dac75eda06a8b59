/-
  polyz: PolyzDerives.
-/
import Derived.Test.YtaikcbckghkhmaaVlaw
namespace Go.Proofs.Ytaikcbckghkhmaa
open Go.RowKit
open MP.Se (nf co)
set_option linter.unusedVariables false
set_option maxRecDepth 100000

/-- The law. -/
theorem PolyzDerives_any {A B C : Option Addr} {kp cp kq cq kx cx : Nat} {bx : Bool} {lp lq lx : List Int} {w : World} (ap : Pa w A kp cp lp) (aq : Pa w B kq cq lq) (gx : Rd w w.heap.size C kx cx lx) :
    Calls Try.prog 7 #[.slice A kp cp, .slice B kq cq, .agg #[.bool bx, .slice C kx cx]] w fun e w' => e = .returned (.bool true) ∧ Below w.heap.size w w' := by
  have hbig := gx.big
  obtain ⟨X, zx⟩ := Zr.of_rd (b := bx) gx
  clear gx
  go_enter Try.func7, Try.ntmps7
  go_wp2_with fail
  refine al1c fun v1 hb x_x => ?_
  replace x_x := Bx.of x_x
  obtain ⟨ap, aq, zx⟩ := mv3 hb ap aq zx
  have q_x := x_x.al
  go_wp2_with fail
  with_reducible refine (Lshown_any).mono ?_
  rintro e v2 ⟨rfl, hb1⟩
  obtain ⟨x_x, ap, aq, zx, hb⟩ := mv5 hb1 x_x ap aq zx hb
  clear hb1
  replace q_x := x_x.al
  go_wp2_with fail
  with_reducible refine (Llittle_any ap).mono ?_
  rintro e v3 ⟨β, rfl, h1, hb1⟩
  obtain ⟨x_x, ap, aq, zx, hb⟩ := mv5 hb1 x_x ap aq zx hb
  clear hb1
  replace q_x := x_x.al
  cases β
  · go_wp2; go_ret; exact ⟨rfl, hb⟩
  obtain ⟨ep, np, pp⟩ := h1 rfl
  clear h1 ap
  go_wp2_with fail
  with_reducible refine (Llittle_any aq).mono ?_
  rintro e v4 ⟨β, rfl, h1, hb1⟩
  obtain ⟨x_x, aq, zx, pp, hb⟩ := mv5 hb1 x_x aq zx pp hb
  clear hb1
  replace q_x := x_x.al
  cases β
  · go_wp2; go_ret; exact ⟨rfl, hb⟩
  obtain ⟨eq, nq, pq⟩ := h1 rfl
  clear h1 aq
  by_cases hxx : kx ≤ 1
  rotate_left
  · have hx2 : (1 : Int) < kx := by omega
    go_wp2; go_ret; exact ⟨rfl, hb⟩
  replace zx := zx.kto hxx
  go_wp2_with fail
  with_reducible refine (PDeriveS_any (J := 1) pp.pd (by omega)).mono ?_
  rintro e v5 ⟨L1, m1, hL, A1, k1, c1, rfl, p1, hb1⟩
  obtain ⟨x_x, zx, pp, pq, hb⟩ := mv5 hb1 x_x zx pp pq hb
  clear hb1
  replace q_x := x_x.al
  have e1 : Lb L1 (MP.Se.dr (co lp)) 6 := ⟨hL.trans (by rw [ep.out]), MP.Se.Bd.dr ep.bd⟩
  have n1 := e1.len m1 p1.pd.len
  clear hL
  go_wp2_with fail
  with_reducible refine (PDeriveS_any (J := 1) pq.pd (by omega)).mono ?_
  rintro e v6 ⟨L2, m2, hL, A2, k2, c2, rfl, p2, hb1⟩
  obtain ⟨x_x, zx, pp, pq, p1, hb⟩ := mv6 hb1 x_x zx pp pq p1 hb
  clear hb1
  replace q_x := x_x.al
  have e2 : Lb L2 (MP.Se.dr (co lq)) 6 := ⟨hL.trans (by rw [eq.out]), MP.Se.Bd.dr eq.bd⟩
  have n2 := e2.len m2 p2.pd.len
  clear hL
  go_wp2_with fail
  with_reducible refine (PAdd_any (J := 1) (K := 15) (pp.pd.kto (by omega)) (pq.pd.kto (by omega)) (by omega) (by omega)).mono ?_
  rintro e v7 ⟨L3, m3, hL, A3, k3, c3, rfl, p3, hb1⟩
  obtain ⟨x_x, zx, pp, pq, p1, p2, hb⟩ := mv7 hb1 x_x zx pp pq p1 p2 hb
  clear hb1
  replace q_x := x_x.al
  have e3 : Lb L3 ((co lp) + (co lq)) 7 := ⟨hL.trans (by rw [ep.out, eq.out]), Bd.pl ep.bd eq.bd (by omega) (by omega)⟩
  have n3 := e3.len m3 p3.pd.len
  clear hL
  go_wp2_with fail
  with_reducible refine (PDeriveS_any (J := 15) p3.pd (by omega)).mono ?_
  rintro e v8 ⟨L4, m4, hL, A4, k4, c4, rfl, p4, hb1⟩
  obtain ⟨x_x, zx, pp, pq, p1, p2, p3, hb⟩ := mv8 hb1 x_x zx pp pq p1 p2 p3 hb
  clear hb1
  replace q_x := x_x.al
  have e4 : Lb L4 (MP.Se.dr ((co lp) + (co lq))) 6 := ⟨hL.trans (by rw [e3.out]), MP.Se.Bd.dr e3.bd⟩
  have n4 := e4.len m4 p4.pd.len
  clear hL
  go_wp2_with fail
  with_reducible refine (PAdd_any (J := 2) (K := 14) (p1.pd.kto (by omega)) (p2.pd.kto (by omega)) (by omega) (by omega)).mono ?_
  rintro e v9 ⟨L5, m5, hL, A5, k5, c5, rfl, p5, hb1⟩
  obtain ⟨x_x, zx, pp, pq, p1, p2, p3, p4, hb⟩ := mv9 hb1 x_x zx pp pq p1 p2 p3 p4 hb
  clear hb1
  replace q_x := x_x.al
  have e5 : Lb L5 ((MP.Se.dr (co lp)) + (MP.Se.dr (co lq))) 6 := ⟨hL.trans (by rw [e1.out, e2.out]), Bd.pl e1.bd e2.bd (by omega) (by omega)⟩
  have n5 := e5.len m5 p5.pd.len
  clear hL
  go_wp2_with fail
  with_reducible refine (Lsame_any p4.pn p5.pn).mono ?_
  rintro e v10 ⟨rfl, hb1⟩
  obtain ⟨x_x, zx, pp, pq, p1, p2, p3, p4, p5⟩ := mv9 hb1 x_x zx pp pq p1 p2 p3 p4 p5
  replace hb := Mv.mv hb hb1
  clear hb1
  replace q_x := x_x.al
  rw [e4.same e5 m4 m5 (MP.Se.dr_add _ _)]
  clear p3
  clear e3 m3
  clear p4
  clear e4 m4
  clear p5
  clear e5 m5
  go_wp2_with fail
  with_reducible refine (PMul_any (J := 1) (J2 := 1) (K := 51) pp.pd pq.pd (by omega) (by have := Nat.mul_le_mul np nq; omega) (by omega)).mono ?_
  rintro e v11 ⟨L6, m6, hL, A6, k6, c6, rfl, p6, hb1⟩
  obtain ⟨x_x, zx, pp, pq, p1, p2, hb⟩ := mv7 hb1 x_x zx pp pq p1 p2 hb
  clear hb1
  replace q_x := x_x.al
  have e6 : Lb L6 ((co lp) * (co lq)) 13 := ⟨hL.trans (by rw [ep.out, eq.out]), Bd.mul (n := 6) (K := 6) ep.bd eq.bd⟩
  have n6 := e6.len m6 p6.pd.len
  clear hL
  go_wp2_with fail
  with_reducible refine (PDeriveS_any (J := 51) p6.pd (by omega)).mono ?_
  rintro e v12 ⟨L7, m7, hL, A7, k7, c7, rfl, p7, hb1⟩
  obtain ⟨x_x, zx, pp, pq, p1, p2, p6, hb⟩ := mv8 hb1 x_x zx pp pq p1 p2 p6 hb
  clear hb1
  replace q_x := x_x.al
  have e7 : Lb L7 (MP.Se.dr ((co lp) * (co lq))) 12 := ⟨hL.trans (by rw [e6.out]), MP.Se.Bd.dr e6.bd⟩
  have n7 := e7.len m7 p7.pd.len
  clear hL
  go_wp2_with fail
  with_reducible refine (PMul_any (J := 2) (J2 := 1) (K := 45) p1.pd pq.pd (by omega) (by have := Nat.mul_le_mul n1 nq; omega) (by omega)).mono ?_
  rintro e v13 ⟨L8, m8, hL, A8, k8, c8, rfl, p8, hb1⟩
  obtain ⟨x_x, zx, pp, pq, p1, p2, p6, p7, hb⟩ := mv9 hb1 x_x zx pp pq p1 p2 p6 p7 hb
  clear hb1
  replace q_x := x_x.al
  have e8 : Lb L8 ((MP.Se.dr (co lp)) * (co lq)) 12 := ⟨hL.trans (by rw [e1.out, eq.out]), Bd.mul (n := 5) (K := 6) e1.bd eq.bd⟩
  have n8 := e8.len m8 p8.pd.len
  clear hL
  go_wp2_with fail
  with_reducible refine (PMul_any (J := 1) (J2 := 2) (K := 45) pp.pd p2.pd (by omega) (by have := Nat.mul_le_mul np n2; omega) (by omega)).mono ?_
  rintro e v14 ⟨L9, m9, hL, A9, k9, c9, rfl, p9, hb1⟩
  obtain ⟨x_x, zx, pp, pq, p1, p2, p6, p7, p8⟩ := mv9 hb1 x_x zx pp pq p1 p2 p6 p7 p8
  replace hb := Mv.mv hb hb1
  clear hb1
  replace q_x := x_x.al
  have e9 : Lb L9 ((co lp) * (MP.Se.dr (co lq))) 12 := ⟨hL.trans (by rw [ep.out, e2.out]), Bd.mul (n := 6) (K := 5) ep.bd e2.bd⟩
  have n9 := e9.len m9 p9.pd.len
  clear hL
  go_wp2_with fail
  with_reducible refine (PAdd_any (J := 45) (K := 69) (p8.pd.kto (by omega)) (p9.pd.kto (by omega)) (by omega) (by omega)).mono ?_
  rintro e v15 ⟨L10, m10, hL, A10, k10, c10, rfl, p10, hb1⟩
  obtain ⟨x_x, zx, pp, pq, p1, p2, p6, p7, p8⟩ := mv9 hb1 x_x zx pp pq p1 p2 p6 p7 p8
  obtain ⟨p9, hb⟩ := mv2 hb1 p9 hb
  clear hb1
  replace q_x := x_x.al
  have e10 : Lb L10 (((MP.Se.dr (co lp)) * (co lq)) + ((co lp) * (MP.Se.dr (co lq)))) 12 := ⟨hL.trans (by rw [e8.out, e9.out]), Bd.pl e8.bd e9.bd (by omega) (by omega)⟩
  have n10 := e10.len m10 p10.pd.len
  clear hL
  go_wp2_with fail
  with_reducible refine (Lsame_any p7.pn p10.pn).mono ?_
  rintro e v16 ⟨rfl, hb1⟩
  obtain ⟨x_x, zx, pp, pq, p1, p2, p6, p7, p8⟩ := mv9 hb1 x_x zx pp pq p1 p2 p6 p7 p8
  obtain ⟨p9, p10, hb⟩ := mv3 hb1 p9 p10 hb
  clear hb1
  replace q_x := x_x.al
  rw [e7.same e10 m7 m10 (MP.Se.dr_mul _ _)]
  clear p6
  clear e6 m6
  clear p7
  clear e7 m7
  clear p8
  clear e8 m8
  clear p9
  clear e9 m9
  clear p10
  clear e10 m10
  go_upto_region 6 with fail
  go_region_held3 (fun w' => w'.cell? ⟨w.heap.size, 0, none⟩ = some (.bool bx) ∧ w'.cell? ⟨w.heap.size, 1, none⟩ = some (.slice C kx cx))
    (first | (with_reducible exact ⟨x_x.c0, x_x.c1⟩) | go_keep)
    (first | (go_at_call 16; (with_reducible refine (PShift_any (J := 1) (J2 := 1) (K := 120) pp.pd.drw zx.drw (by omega) (by have := Nat.mul_le_mul np (show 1 + 2 * kp + 2 ≤ 17 by omega); omega) (by omega)).mono ?_); rintro e v17 ⟨L11, m11, hL, A11, k11, c11, rfl, p11, hb1⟩; replace hb1 := undrew hb1; obtain ⟨x_x, zx, pp, pq, p1, p2, hb⟩ := mv7 hb1 x_x zx pp pq p1 p2 hb; clear hb1; replace q_x := x_x.al; have e11 : Lb L11 (MP.Se.pu (co lp) (MP.Se.xa (X))) 7 := ⟨hL.trans (by rw [ep.out]), MP.Se.pu_bd ep.bd (MP.Se.Bd.xa _)⟩; have n11 := e11.len m11 p11.pd.len; clear hL) | (go_at_call 33; (with_reducible refine (PDeriveS_any (J := 120) p11.pd (by omega)).mono ?_); rintro e v18 ⟨L12, m12, hL, A12, k12, c12, rfl, p12, hb1⟩; obtain ⟨x_x, zx, pp, pq, p1, p2, p11, hb⟩ := mv8 hb1 x_x zx pp pq p1 p2 p11 hb; clear hb1; replace q_x := x_x.al; have e12 : Lb L12 (MP.Se.dr (MP.Se.pu (co lp) (MP.Se.xa (X)))) 6 := ⟨hL.trans (by rw [e11.out]), MP.Se.Bd.dr e11.bd⟩; have n12 := e12.len m12 p12.pd.len; clear hL) | (go_at_call 16; (with_reducible refine (PShift_any (J := 2) (J2 := 1) (K := 92) p1.pd zx (by omega) (by have := Nat.mul_le_mul n1 (show 1 + 2 * k1 + 2 ≤ 15 by omega); omega) (by omega)).mono ?_); rintro e v19 ⟨L13, m13, hL, A13, k13, c13, rfl, p13, hb1⟩; obtain ⟨x_x, zx, pp, pq, p1, p2, p11, p12, hb⟩ := mv9 hb1 x_x zx pp pq p1 p2 p11 p12 hb; clear hb1; replace q_x := x_x.al; have e13 : Lb L13 (MP.Se.pu (MP.Se.dr (co lp)) (MP.Se.xa (X))) 6 := ⟨hL.trans (by rw [e1.out]), MP.Se.pu_bd e1.bd (MP.Se.Bd.xa _)⟩; have n13 := e13.len m13 p13.pd.len; clear hL) | (go_at_call 15; (with_reducible refine (Lsame_any p12.pn p13.pn).mono ?_); rintro e v20 ⟨rfl, hb1⟩; obtain ⟨x_x, zx, pp, pq, p1, p2, p11, p12, p13⟩ := mv9 hb1 x_x zx pp pq p1 p2 p11 p12 p13; replace hb := Mv.mv hb hb1; clear hb1; replace q_x := x_x.al; rw [e12.same e13 m12 m13 (MP.Se.dr_pu ep.fn (MP.Se.Fn.xa _) (MP.Se.dr_xa _))]))
  go_wp2
  go_ret
  exact ⟨rfl, hb⟩
end Go.Proofs.Ytaikcbckghkhmaa
