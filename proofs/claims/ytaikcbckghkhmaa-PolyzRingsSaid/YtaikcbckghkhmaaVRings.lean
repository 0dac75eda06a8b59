/-
  polyz: PolyzRings.
-/
import Derived.Test.YtaikcbckghkhmaaVlaw
namespace Go.Proofs.Ytaikcbckghkhmaa
open Go.RowKit
open MP.Se (nf co)
set_option linter.unusedVariables false
set_option maxRecDepth 100000

theorem mul_u (p : MP.Se) : p * co [1] = p := by rw [MP.Se.co_cons, MP.Se.co_nil, MP.Se.sh_zero, MP.Se.add_zero, MP.Se.mul_one]
theorem sub_can (p q : MP.Se) : p - q + q = p := by rw [MP.Se.sub_eq, MP.Se.add_assoc, MP.Se.add_comm (-q), MP.Se.add_neg, MP.Se.add_zero]
/-- The law. -/
theorem PolyzRings_any {A B C : Option Addr} {na ca nb cb nc cc : Nat} {lp lq lr : List Int} {w : World} (ap : Pa w A na ca lp) (aq : Pa w B nb cb lq) (ar : Pa w C nc cc lr) :
    Calls Try.prog 4 #[.slice A na ca, .slice B nb cb, .slice C nc cc] w fun e w' => e = .returned (.bool true) ∧ Below w.heap.size w w' := by
  have hb := Below.refl w.heap.size w
  go_enter Try.func4, Try.ntmps4
  go_wp2_with fail
  with_reducible refine (Lshown_any).mono ?_
  rintro e v1 ⟨rfl, hb1⟩
  obtain ⟨ap, aq, ar, hb⟩ := mv4 hb1 ap aq ar hb
  clear hb1
  go_wp2_with fail
  with_reducible refine (Llittle_any ap).mono ?_
  rintro e v2 ⟨β, rfl, h1, hb1⟩
  obtain ⟨ap, aq, ar, hb⟩ := mv4 hb1 ap aq ar hb
  clear hb1
  cases β
  · go_wp2; go_ret; exact ⟨rfl, hb⟩
  obtain ⟨ep, np, pp⟩ := h1 rfl
  clear h1 ap
  go_wp2_with fail
  with_reducible refine (Llittle_any aq).mono ?_
  rintro e v3 ⟨β, rfl, h1, hb1⟩
  obtain ⟨aq, ar, pp, hb⟩ := mv4 hb1 aq ar pp hb
  clear hb1
  cases β
  · go_wp2; go_ret; exact ⟨rfl, hb⟩
  obtain ⟨eq, nq, pq⟩ := h1 rfl
  clear h1 aq
  go_wp2_with fail
  with_reducible refine (Llittle_any ar).mono ?_
  rintro e v4 ⟨β, rfl, h1, hb1⟩
  obtain ⟨ar, pp, pq, hb⟩ := mv4 hb1 ar pp pq hb
  clear hb1
  cases β
  · go_wp2; go_ret; exact ⟨rfl, hb⟩
  obtain ⟨er, nr, pr⟩ := h1 rfl
  clear h1 ar
  go_wp2_with fail
  with_reducible refine (PAdd_any (J := 1) (K := 15) (pp.pd.kto (by omega)) (pq.pd.kto (by omega)) (by omega) (by omega)).mono ?_
  rintro e v5 ⟨L1, m1, hL, A1, k1, c1, rfl, p1, hb1⟩
  obtain ⟨pp, pq, pr, hb⟩ := mv4 hb1 pp pq pr hb
  clear hb1
  have e1 : Lb L1 ((co lp) + (co lq)) 7 := ⟨hL.trans (by rw [ep.out, eq.out]), Bd.pl ep.bd eq.bd (by omega) (by omega)⟩
  have n1 := e1.len m1 p1.pd.len
  clear hL
  go_wp2_with fail
  with_reducible refine (PMul_any (J := 15) (J2 := 1) (K := 65) p1.pd pr.pd (by omega) (by have := Nat.mul_le_mul n1 nr; omega) (by omega)).mono ?_
  rintro e v6 ⟨L2, m2, hL, A2, k2, c2, rfl, p2, hb1⟩
  obtain ⟨pp, pq, pr, p1, hb⟩ := mv5 hb1 pp pq pr p1 hb
  clear hb1
  have e2 : Lb L2 (((co lp) + (co lq)) * (co lr)) 13 := ⟨hL.trans (by rw [e1.out, er.out]), Bd.mul (n := 6) (K := 6) e1.bd er.bd⟩
  have n2 := e2.len m2 p2.pd.len
  clear hL
  go_wp2_with fail
  with_reducible refine (PMul_any (J := 1) (J2 := 1) (K := 51) pp.pd pr.pd (by omega) (by have := Nat.mul_le_mul np nr; omega) (by omega)).mono ?_
  rintro e v7 ⟨L3, m3, hL, A3, k3, c3, rfl, p3, hb1⟩
  obtain ⟨pp, pq, pr, p1, p2, hb⟩ := mv6 hb1 pp pq pr p1 p2 hb
  clear hb1
  have e3 : Lb L3 ((co lp) * (co lr)) 13 := ⟨hL.trans (by rw [ep.out, er.out]), Bd.mul (n := 6) (K := 6) ep.bd er.bd⟩
  have n3 := e3.len m3 p3.pd.len
  clear hL
  go_wp2_with fail
  with_reducible refine (PMul_any (J := 1) (J2 := 1) (K := 51) pq.pd pr.pd (by omega) (by have := Nat.mul_le_mul nq nr; omega) (by omega)).mono ?_
  rintro e v8 ⟨L4, m4, hL, A4, k4, c4, rfl, p4, hb1⟩
  obtain ⟨pp, pq, pr, p1, p2, p3, hb⟩ := mv7 hb1 pp pq pr p1 p2 p3 hb
  clear hb1
  have e4 : Lb L4 ((co lq) * (co lr)) 13 := ⟨hL.trans (by rw [eq.out, er.out]), Bd.mul (n := 6) (K := 6) eq.bd er.bd⟩
  have n4 := e4.len m4 p4.pd.len
  clear hL
  go_wp2_with fail
  with_reducible refine (PAdd_any (J := 51) (K := 77) (p3.pd.kto (by omega)) (p4.pd.kto (by omega)) (by omega) (by omega)).mono ?_
  rintro e v9 ⟨L5, m5, hL, A5, k5, c5, rfl, p5, hb1⟩
  obtain ⟨pp, pq, pr, p1, p2, p3, p4, hb⟩ := mv8 hb1 pp pq pr p1 p2 p3 p4 hb
  clear hb1
  have e5 : Lb L5 (((co lp) * (co lr)) + ((co lq) * (co lr))) 13 := ⟨hL.trans (by rw [e3.out, e4.out]), Bd.pl e3.bd e4.bd (by omega) (by omega)⟩
  have n5 := e5.len m5 p5.pd.len
  clear hL
  go_wp2_with fail
  with_reducible refine (Lsame_any p2.pn p5.pn).mono ?_
  rintro e v10 ⟨rfl, hb1⟩
  obtain ⟨pp, pq, pr, p1, p2, p3, p4, p5, hb⟩ := mv9 hb1 pp pq pr p1 p2 p3 p4 p5 hb
  clear hb1
  rw [e2.same e5 m2 m5 (MP.Se.add_mul _ _ _)]
  clear p1
  clear e1 m1
  clear p2
  clear e2 m2
  clear p3
  clear e3 m3
  clear p4
  clear e4 m4
  clear p5
  clear e5 m5
  go_wp2_with fail
  with_reducible refine (PMul_any (J := 1) (J2 := 1) (K := 51) pp.pd pq.pd (by omega) (by have := Nat.mul_le_mul np nq; omega) (by omega)).mono ?_
  rintro e v11 ⟨L6, m6, hL, A6, k6, c6, rfl, p6, hb1⟩
  obtain ⟨pp, pq, pr, hb⟩ := mv4 hb1 pp pq pr hb
  clear hb1
  have e6 : Lb L6 ((co lp) * (co lq)) 13 := ⟨hL.trans (by rw [ep.out, eq.out]), Bd.mul (n := 6) (K := 6) ep.bd eq.bd⟩
  have n6 := e6.len m6 p6.pd.len
  clear hL
  go_wp2_with fail
  with_reducible refine (PMul_any (J := 1) (J2 := 1) (K := 51) pq.pd pp.pd (by omega) (by have := Nat.mul_le_mul nq np; omega) (by omega)).mono ?_
  rintro e v12 ⟨L7, m7, hL, A7, k7, c7, rfl, p7, hb1⟩
  obtain ⟨pp, pq, pr, p6, hb⟩ := mv5 hb1 pp pq pr p6 hb
  clear hb1
  have e7 : Lb L7 ((co lq) * (co lp)) 13 := ⟨hL.trans (by rw [eq.out, ep.out]), Bd.mul (n := 6) (K := 6) eq.bd ep.bd⟩
  have n7 := e7.len m7 p7.pd.len
  clear hL
  go_wp2_with fail
  with_reducible refine (Lsame_any p6.pn p7.pn).mono ?_
  rintro e v13 ⟨rfl, hb1⟩
  obtain ⟨pp, pq, pr, p6, p7, hb⟩ := mv6 hb1 pp pq pr p6 p7 hb
  clear hb1
  rw [e6.same e7 m6 m7 (MP.Se.mul_comm _ _)]
  clear p6
  clear e6 m6
  clear p7
  clear e7 m7
  go_wp2_with fail
  with_reducible refine (PMul_any (J := 1) (J2 := 1) (K := 51) pp.pd pq.pd (by omega) (by have := Nat.mul_le_mul np nq; omega) (by omega)).mono ?_
  rintro e v14 ⟨L8, m8, hL, A8, k8, c8, rfl, p8, hb1⟩
  obtain ⟨pp, pq, pr, hb⟩ := mv4 hb1 pp pq pr hb
  clear hb1
  have e8 : Lb L8 ((co lp) * (co lq)) 13 := ⟨hL.trans (by rw [ep.out, eq.out]), Bd.mul (n := 6) (K := 6) ep.bd eq.bd⟩
  have n8 := e8.len m8 p8.pd.len
  clear hL
  go_wp2_with fail
  with_reducible refine (PMul_any (J := 51) (J2 := 1) (K := 143) p8.pd pr.pd (by omega) (by have := Nat.mul_le_mul n8 nr; omega) (by omega)).mono ?_
  rintro e v15 ⟨L9, m9, hL, A9, k9, c9, rfl, p9, hb1⟩
  obtain ⟨pp, pq, pr, p8, hb⟩ := mv5 hb1 pp pq pr p8 hb
  clear hb1
  have e9 : Lb L9 (((co lp) * (co lq)) * (co lr)) 19 := ⟨hL.trans (by rw [e8.out, er.out]), Bd.mul (n := 12) (K := 6) e8.bd er.bd⟩
  have n9 := e9.len m9 p9.pd.len
  clear hL
  go_wp2_with fail
  with_reducible refine (PMul_any (J := 1) (J2 := 1) (K := 51) pq.pd pr.pd (by omega) (by have := Nat.mul_le_mul nq nr; omega) (by omega)).mono ?_
  rintro e v16 ⟨L10, m10, hL, A10, k10, c10, rfl, p10, hb1⟩
  obtain ⟨pp, pq, pr, p8, p9, hb⟩ := mv6 hb1 pp pq pr p8 p9 hb
  clear hb1
  have e10 : Lb L10 ((co lq) * (co lr)) 13 := ⟨hL.trans (by rw [eq.out, er.out]), Bd.mul (n := 6) (K := 6) eq.bd er.bd⟩
  have n10 := e10.len m10 p10.pd.len
  clear hL
  go_wp2_with fail
  with_reducible refine (PMul_any (J := 1) (J2 := 51) (K := 143) pp.pd p10.pd (by omega) (by have := Nat.mul_le_mul np n10; omega) (by omega)).mono ?_
  rintro e v17 ⟨L11, m11, hL, A11, k11, c11, rfl, p11, hb1⟩
  obtain ⟨pp, pq, pr, p8, p9, p10, hb⟩ := mv7 hb1 pp pq pr p8 p9 p10 hb
  clear hb1
  have e11 : Lb L11 ((co lp) * ((co lq) * (co lr))) 19 := ⟨hL.trans (by rw [ep.out, e10.out]), Bd.mul (n := 6) (K := 12) ep.bd e10.bd⟩
  have n11 := e11.len m11 p11.pd.len
  clear hL
  go_wp2_with fail
  with_reducible refine (Lsame_any p9.pn p11.pn).mono ?_
  rintro e v18 ⟨rfl, hb1⟩
  obtain ⟨pp, pq, pr, p8, p9, p10, p11, hb⟩ := mv8 hb1 pp pq pr p8 p9 p10 p11 hb
  clear hb1
  rw [e9.same e11 m9 m11 (MP.Se.mul_assoc _ _ _)]
  clear p8
  clear e8 m8
  clear p9
  clear e9 m9
  clear p10
  clear e10 m10
  clear p11
  clear e11 m11
  go_wp2_with fail
  with_reducible refine (PSub_any (J := 1) (K := 15) (pp.pd.kto (by omega)) (pq.pd.kto (by omega)) (by omega) (by omega)).mono ?_
  rintro e v19 ⟨L12, m12, hL, A12, k12, c12, rfl, p12, hb1⟩
  obtain ⟨pp, pq, pr, hb⟩ := mv4 hb1 pp pq pr hb
  clear hb1
  have e12 : Lb L12 ((co lp) - (co lq)) 7 := ⟨hL.trans (by rw [ep.out, eq.out]), Bd.mi ep.bd eq.bd (by omega) (by omega)⟩
  have n12 := e12.len m12 p12.pd.len
  clear hL
  go_wp2_with fail
  with_reducible refine (PAdd_any (J := 15) (K := 29) (p12.pd.kto (by omega)) (pq.pd.kto (by omega)) (by omega) (by omega)).mono ?_
  rintro e v20 ⟨L13, m13, hL, A13, k13, c13, rfl, p13, hb1⟩
  obtain ⟨pp, pq, pr, p12, hb⟩ := mv5 hb1 pp pq pr p12 hb
  clear hb1
  have e13 : Lb L13 (((co lp) - (co lq)) + (co lq)) 7 := ⟨hL.trans (by rw [e12.out, eq.out]), Bd.pl e12.bd eq.bd (by omega) (by omega)⟩
  have n13 := e13.len m13 p13.pd.len
  clear hL
  go_wp2_with fail
  with_reducible refine (PNormS_any (J := 1) pp.pd (by omega)).mono ?_
  rintro e v21 ⟨L14, m14, hL, A14, k14, c14, rfl, p14, hb1⟩
  obtain ⟨pp, pq, pr, p12, p13, hb⟩ := mv6 hb1 pp pq pr p12 p13 hb
  clear hb1
  have e14 : Lb L14 (co lp) 7 := ⟨hL.trans (by rw [ep.out]), ep.bd⟩
  have n14 := e14.len m14 p14.pd.len
  clear hL
  go_wp2_with fail
  with_reducible refine (Lsame_any p13.pn p14.pn).mono ?_
  rintro e v22 ⟨rfl, hb1⟩
  obtain ⟨pp, pq, pr, p12, p13, p14, hb⟩ := mv7 hb1 pp pq pr p12 p13 p14 hb
  clear hb1
  rw [e13.same e14 m13 m14 (sub_can _ _)]
  clear p12
  clear e12 m12
  clear p13
  clear e13 m13
  clear p14
  clear e14 m14
  go_wp2_with fail
  with_reducible refine (PSub_any (J := 1) (K := 15) (pp.pd.kto (by omega)) (pp.pd.kto (by omega)) (by omega) (by omega)).mono ?_
  rintro e v23 ⟨L15, m15, hL, A15, k15, c15, rfl, p15, hb1⟩
  obtain ⟨pp, pq, pr, hb⟩ := mv4 hb1 pp pq pr hb
  clear hb1
  have e15 : Lb L15 ((co lp) - (co lp)) 7 := ⟨hL.trans (by rw [ep.out]), Bd.mi ep.bd ep.bd (by omega) (by omega)⟩
  have n15 := e15.len m15 p15.pd.len
  clear hL
  go_wp2_with fail
  with_reducible refine (PDegree_any p15.pd (by omega)).mono ?_
  rintro e v24 ⟨rfl, hb1⟩
  obtain ⟨pp, pq, pr, p15, hb⟩ := mv5 hb1 pp pq pr p15 hb
  clear hb1
  rw [show ((nf L15).length : Int) - 1 = -1 by rw [MP.Se.nf_nil_iff.2 (e15.out.trans (MP.Se.sub_self _))]; rfl]
  clear p15
  clear e15 m15
  go_wp2_with fail
  refine al1c fun u16 hb1 x => ?_
  obtain ⟨pp, pq, pr, hb⟩ := mv4 hb1 pp pq pr hb
  clear hb1
  with_reducible refine (Lpoly_at (n := 1) [1] x rfl (by omega) (by decide)).mono ?_
  rintro e v25 ⟨A16, c16, rfl, p16, hb1⟩
  clear x
  obtain ⟨pp, pq, pr, hb⟩ := mv4 hb1 pp pq pr hb
  clear hb1
  have e16 : Lb [1] (co [1]) 1 := Lb.mk0 (by decide)
  have m16 : MP.Se.Nm [1] := nm_dec rfl
  have n16 : 1 ≤ 1 := by omega
  go_wp2_with fail
  with_reducible refine (PMul_any (J := 1) (J2 := 1) (K := 9) pp.pd p16.pd (by omega) (by have := Nat.mul_le_mul np n16; omega) (by omega)).mono ?_
  rintro e v26 ⟨L17, m17, hL, A17, k17, c17, rfl, p17, hb1⟩
  obtain ⟨pp, pq, pr, p16, hb⟩ := mv5 hb1 pp pq pr p16 hb
  clear hb1
  have e17 : Lb L17 ((co lp) * (co [1])) 7 := ⟨hL.trans (by rw [ep.out, e16.out]), Bd.mul (n := 6) (K := 0) ep.bd e16.bd⟩
  have n17 := e17.len m17 p17.pd.len
  clear hL
  go_wp2_with fail
  with_reducible refine (PNormS_any (J := 1) pp.pd (by omega)).mono ?_
  rintro e v27 ⟨L18, m18, hL, A18, k18, c18, rfl, p18, hb1⟩
  obtain ⟨pp, pq, pr, p16, p17, hb⟩ := mv6 hb1 pp pq pr p16 p17 hb
  clear hb1
  have e18 : Lb L18 (co lp) 7 := ⟨hL.trans (by rw [ep.out]), ep.bd⟩
  have n18 := e18.len m18 p18.pd.len
  clear hL
  go_wp2_with fail
  with_reducible refine (Lsame_any p17.pn p18.pn).mono ?_
  rintro e v28 ⟨rfl, hb1⟩
  obtain ⟨pp, pq, pr, p16, p17, p18, hb⟩ := mv7 hb1 pp pq pr p16 p17 p18 hb
  clear hb1
  rw [e17.same e18 m17 m18 (mul_u _)]
  clear p16
  clear e16 m16
  clear p17
  clear e17 m17
  clear p18
  clear e18 m18
  go_wp2
  go_ret
  exact ⟨rfl, hb⟩
end Go.Proofs.Ytaikcbckghkhmaa
