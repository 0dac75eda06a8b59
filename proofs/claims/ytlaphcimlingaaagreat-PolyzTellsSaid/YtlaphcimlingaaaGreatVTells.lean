/-
  polyz: PolyzTells.
-/
import Derived.Test.YtlaphcimlingaaaGreatVRl
import Derived.Test.YtlaphcimlingaaaGreatVRm
import Derived.Test.YtlaphcimlingaaaGreatVRe
import Derived.Test.YtlaphcimlingaaaGreatVRv
import Derived.Test.YtlaphcimlingaaaGreatVsame
import Derived.Test.YtlaphcimlingaaaGreatVval
import Derived.Test.YtlaphcimlingaaaGreatVnew
namespace Go.Proofs.YtlaphcimlingaaaGreat
open Go.RowKit
open MP.Se (nf co)
set_option linter.unusedVariables false
set_option maxRecDepth 100000

set_option maxHeartbeats 4000000 in
/-- The law. -/
theorem PolyzTells_any {A B C : Option Addr} {kp cp kq cq kx cx : Nat} {bx : Bool} {lp lq lx : List Int} {w : World} (ap : Pa w A kp cp lp) (aq : Pa w B kq cq lq) (gx : Rd w w.heap.size C kx cx lx) :
    Calls Tryz.prog 3 #[.slice A kp cp, .slice B kq cq, .agg #[.bool bx, .slice C kx cx]] w fun e w' => e = .returned (.bool true) ∧ Below w.heap.size w w' := by
  have hbig := gx.big
  obtain ⟨X, zx⟩ := Zr.of_rd (b := bx) gx
  clear gx
  obtain ⟨β, hβ⟩ : ∃ β, decide (nf lp = nf lq) = β := ⟨_, rfl⟩
  have HB := Lib.hid hβ; clear hβ
  obtain ⟨M, hM⟩ : ∃ M, (nf lp).length = M := ⟨_, rfl⟩
  have HM := Lib.hid hM
  have hle := MP.Se.nf_len lp; have hlp := ap.1
  have hMk : M ≤ kp := by omega
  clear hM hle hlp
  go_enter Tryz.func3, Tryz.ntmps3
  go_wp2_with fail
  refine al1c fun v1 hb x_x => ?_
  replace x_x := Bx.of x_x
  obtain ⟨ap, aq, zx⟩ := mv3 hb ap aq zx
  have q_x := x_x.al
  go_wp2_with fail
  with_reducible refine (Lshown_any).mono ?_
  rintro e v2 ⟨rfl, hb1⟩
  obtain ⟨x_x, ap, aq, zx, hb⟩ := mv5 hb1 x_x ap aq zx hb
  clear hb1
  replace q_x := x_x.al
  go_wp2_with fail
  with_reducible refine (Lfits_any ap).mono ?_
  rintro e v3 ⟨β, rfl, h1, hb1⟩
  obtain ⟨x_x, ap, aq, zx, hb⟩ := mv5 hb1 x_x ap aq zx hb
  clear hb1
  replace q_x := x_x.al
  cases β
  · go_wp2; go_ret; exact ⟨rfl, hb⟩
  obtain ⟨ep, np, pp⟩ := h1 rfl
  clear h1 ap
  go_wp2_with fail
  with_reducible refine (Lfits_any aq).mono ?_
  rintro e v4 ⟨β, rfl, h1, hb1⟩
  obtain ⟨x_x, aq, zx, pp, hb⟩ := mv5 hb1 x_x aq zx pp hb
  clear hb1
  replace q_x := x_x.al
  cases β
  · go_wp2; go_ret; exact ⟨rfl, hb⟩
  obtain ⟨eq, nq, pq⟩ := h1 rfl
  clear h1 aq
  by_cases hxx : kx ≤ 3
  rotate_left
  · have hx2 : (3 : Int) < kx := by omega
    go_wp2; go_ret; exact ⟨rfl, hb⟩
  replace zx := zx.kto hxx
  obtain ⟨Rp, rp, hlp, hjp⟩ := pp.pd.raw
  have HLp := Lib.hid hlp; have HJp := Lib.hid hjp; clear hlp hjp
  obtain ⟨Rq, rq, hlq, hjq⟩ := pq.pd.raw
  have HLq := Lib.hid hlq; have HJq := Lib.hid hjq; clear hlq hjq
  go_wp2_with fail
  with_reducible refine (DoOwn_any rp (by omega) (fun r hr => Nat.le_trans (HJp.out r hr) (by omega))).mono ?_
  rintro e v5 ⟨Aa, na, ca, rfl, ra, hb1⟩
  obtain ⟨x_x, zx, pp, pq, rp, rq, hb⟩ := mv7 hb1 x_x zx pp pq rp rq hb
  clear hb1
  replace q_x := x_x.al
  obtain rfl : kp = na := by rw [← ra.len, rp.len]
  have pa := (ra.pd HJp.out).pe
  rw [← HLp.out] at pa
  go_wp2_with fail
  with_reducible refine (DoOwn_any rq (by omega) (fun r hr => Nat.le_trans (HJq.out r hr) (by omega))).mono ?_
  rintro e v6 ⟨Ab, nb, cb, rfl, rb, hb1⟩
  obtain ⟨x_x, zx, pp, pq, rp, rq, ra, pa, hb⟩ := mv9 hb1 x_x zx pp pq rp rq ra pa hb
  clear hb1
  replace q_x := x_x.al
  obtain rfl : kq = nb := by rw [← rb.len, rq.len]
  have pb := (rb.pd HJq.out).pe
  rw [← HLq.out] at pb
  go_wp2_with fail
  with_reducible refine (PNormS_any (J := 3) pa.pd (by omega)).mono ?_
  rintro e v7 ⟨L1, m1, hL, A1, k1, c1, rfl, p1, hb1⟩
  obtain ⟨x_x, zx, pp, pq, rp, rq, ra, pa, rb⟩ := mv9 hb1 x_x zx pp pq rp rq ra pa rb
  obtain ⟨pb, hb⟩ := mv2 hb1 pb hb
  clear hb1
  replace q_x := x_x.al
  have e1 : Lb L1 (co lp) 14 := ⟨hL.trans (by rw [ep.out]), ep.bd⟩
  have n1 := e1.len m1 p1.pd.len
  clear hL
  go_wp2_with fail
  with_reducible refine (DoNorm_any (J := 3) pp.pd (by omega) (by omega)).mono ?_
  rintro e v8 ⟨L2, A2, k2, c2, rfl, m2, hL, p2, hb1⟩
  obtain ⟨x_x, zx, pp, pq, rp, rq, ra, pa, rb⟩ := mv9 hb1 x_x zx pp pq rp rq ra pa rb
  obtain ⟨pb, p1, hb⟩ := mv3 hb1 pb p1 hb
  clear hb1
  replace q_x := x_x.al
  have e2 : Lb L2 (co lp) 14 := ⟨hL.trans (by rw [ep.out]), ep.bd⟩
  have n2 := e2.len m2 p2.pd.len
  clear hL
  go_wp2_with fail
  with_reducible refine (Lsame_any p1.pn p2.pn).mono ?_
  rintro e v9 ⟨rfl, hb1⟩
  obtain ⟨x_x, zx, pp, pq, rp, rq, ra, pa, rb⟩ := mv9 hb1 x_x zx pp pq rp rq ra pa rb
  obtain ⟨pb, p1, p2, hb⟩ := mv4 hb1 pb p1 p2 hb
  clear hb1
  replace q_x := x_x.al
  rw [e1.same e2 m1 m2 (rfl)]
  clear p1
  clear e1 m1
  clear p2
  clear e2 m2
  go_wp2_with fail
  with_reducible refine (PSame_any pa.pd pb.pd (by omega) (by omega)).mono ?_
  rintro e v10 ⟨rfl, hb1⟩
  obtain ⟨x_x, zx, pp, pq, rp, rq, ra, pa, rb⟩ := mv9 hb1 x_x zx pp pq rp rq ra pa rb
  obtain ⟨pb, hb⟩ := mv2 hb1 pb hb
  clear hb1
  replace q_x := x_x.al
  rw [HB.out]
  go_wp2_with fail
  with_reducible refine (DoSame_any pp.pd pq.pd (by omega) (by omega) (by omega)).mono ?_
  rintro e v11 ⟨rfl, hb1⟩
  obtain ⟨x_x, zx, pp, pq, rp, rq, ra, pa, rb⟩ := mv9 hb1 x_x zx pp pq rp rq ra pa rb
  obtain ⟨pb, hb⟩ := mv2 hb1 pb hb
  clear hb1
  replace q_x := x_x.al
  rw [HB.out]
  go_wp2_with fail
  with_reducible refine (PDegree_any pa.pd (by omega)).mono ?_
  rintro e v12 ⟨rfl, hb1⟩
  obtain ⟨x_x, zx, pp, pq, rp, rq, ra, pa, rb⟩ := mv9 hb1 x_x zx pp pq rp rq ra pa rb
  obtain ⟨pb, hb⟩ := mv2 hb1 pb hb
  clear hb1
  replace q_x := x_x.al
  rw [HM.out]
  go_wp2_with fail
  with_reducible refine (RDegree_any pp.pd (by omega)).mono ?_
  rintro e v13 ⟨rfl, hb1⟩
  obtain ⟨x_x, zx, pp, pq, rp, rq, ra, pa, rb⟩ := mv9 hb1 x_x zx pp pq rp rq ra pa rb
  obtain ⟨pb, hb⟩ := mv2 hb1 pb hb
  clear hb1
  replace q_x := x_x.al
  rw [HM.out]
  go_wp2_with fail
  with_reducible refine (PAdd_any (J := 3) (K := 31) (pa.pd.kto (by omega)) (pb.pd.kto (by omega)) (by omega) (by omega)).mono ?_
  rintro e v14 ⟨L3, m3, hL, A3, k3, c3, rfl, p3, hb1⟩
  obtain ⟨x_x, zx, pp, pq, rp, rq, ra, pa, rb⟩ := mv9 hb1 x_x zx pp pq rp rq ra pa rb
  obtain ⟨pb, hb⟩ := mv2 hb1 pb hb
  clear hb1
  replace q_x := x_x.al
  have e3 : Lb L3 ((co lp) + (co lq)) 14 := ⟨hL.trans (by rw [ep.out, eq.out]), Bd.pl ep.bd eq.bd (by omega) (by omega)⟩
  have n3 := e3.len m3 p3.pd.len
  clear hL
  go_wp2_with fail
  with_reducible refine (DoAdd_any (J := 3) (pp.pd.kto (by omega)) (pq.pd.kto (by omega)) (by omega) (by omega) (by omega)).mono ?_
  rintro e v15 ⟨L4, A4, k4, c4, rfl, m4, hL, p4, hb1⟩
  obtain ⟨x_x, zx, pp, pq, rp, rq, ra, pa, rb⟩ := mv9 hb1 x_x zx pp pq rp rq ra pa rb
  obtain ⟨pb, p3, hb⟩ := mv3 hb1 pb p3 hb
  clear hb1
  replace q_x := x_x.al
  have e4 : Lb L4 ((co lp) + (co lq)) 14 := ⟨hL.trans (by rw [ep.out, eq.out]), Bd.pl ep.bd eq.bd (by omega) (by omega)⟩
  have n4 := e4.len m4 p4.pd.len
  clear hL
  go_wp2_with fail
  with_reducible refine (Lsame_any p3.pn p4.pn).mono ?_
  rintro e v16 ⟨rfl, hb1⟩
  obtain ⟨x_x, zx, pp, pq, rp, rq, ra, pa, rb⟩ := mv9 hb1 x_x zx pp pq rp rq ra pa rb
  obtain ⟨pb, p3, p4, hb⟩ := mv4 hb1 pb p3 p4 hb
  clear hb1
  replace q_x := x_x.al
  rw [e3.same e4 m3 m4 (rfl)]
  clear p3
  clear e3 m3
  clear p4
  clear e4 m4
  go_wp2_with fail
  with_reducible refine (PSub_any (J := 3) (K := 31) (pa.pd.kto (by omega)) (pb.pd.kto (by omega)) (by omega) (by omega)).mono ?_
  rintro e v17 ⟨L5, m5, hL, A5, k5, c5, rfl, p5, hb1⟩
  obtain ⟨x_x, zx, pp, pq, rp, rq, ra, pa, rb⟩ := mv9 hb1 x_x zx pp pq rp rq ra pa rb
  obtain ⟨pb, hb⟩ := mv2 hb1 pb hb
  clear hb1
  replace q_x := x_x.al
  have e5 : Lb L5 ((co lp) - (co lq)) 14 := ⟨hL.trans (by rw [ep.out, eq.out]), Bd.mi ep.bd eq.bd (by omega) (by omega)⟩
  have n5 := e5.len m5 p5.pd.len
  clear hL
  go_wp2_with fail
  with_reducible refine (DoSub_any (J := 3) (J2 := 3) (K := 4) pp.pd pq.pd (by omega) (by omega) (by omega) (by omega) (by omega)).mono ?_
  rintro e v18 ⟨L6, A6, k6, c6, rfl, m6, hL, p6, hb1⟩
  obtain ⟨x_x, zx, pp, pq, rp, rq, ra, pa, rb⟩ := mv9 hb1 x_x zx pp pq rp rq ra pa rb
  obtain ⟨pb, p5, hb⟩ := mv3 hb1 pb p5 hb
  clear hb1
  replace q_x := x_x.al
  have e6 : Lb L6 ((co lp) - (co lq)) 14 := ⟨hL.trans (by rw [ep.out, eq.out]), Bd.mi ep.bd eq.bd (by omega) (by omega)⟩
  have n6 := e6.len m6 p6.pd.len
  clear hL
  go_wp2_with fail
  with_reducible refine (Lsame_any p5.pn p6.pn).mono ?_
  rintro e v19 ⟨rfl, hb1⟩
  obtain ⟨x_x, zx, pp, pq, rp, rq, ra, pa, rb⟩ := mv9 hb1 x_x zx pp pq rp rq ra pa rb
  obtain ⟨pb, p5, p6, hb⟩ := mv4 hb1 pb p5 p6 hb
  clear hb1
  replace q_x := x_x.al
  rw [e5.same e6 m5 m6 (rfl)]
  clear p5
  clear e5 m5
  clear p6
  clear e6 m6
  go_wp2_with fail
  with_reducible refine (PMul_any (J := 3) (J2 := 3) (K := 202) pa.pd pb.pd (by omega) (by have := Nat.mul_le_mul np nq; omega) (by omega)).mono ?_
  rintro e v20 ⟨L7, m7, hL, A7, k7, c7, rfl, p7, hb1⟩
  obtain ⟨x_x, zx, pp, pq, rp, rq, ra, pa, rb⟩ := mv9 hb1 x_x zx pp pq rp rq ra pa rb
  obtain ⟨pb, hb⟩ := mv2 hb1 pb hb
  clear hb1
  replace q_x := x_x.al
  have e7 : Lb L7 ((co lp) * (co lq)) 27 := ⟨hL.trans (by rw [ep.out, eq.out]), Bd.mul (n := 13) (K := 13) ep.bd eq.bd⟩
  have n7 := e7.len m7 p7.pd.len
  clear hL
  go_wp2_with fail
  with_reducible refine (DoMul_any (J := 3) (J2 := 3) (K := 20) pp.pd pq.pd (by omega) (by omega) (by omega)).mono ?_
  rintro e v21 ⟨L8, A8, k8, c8, rfl, m8, hL, p8, hb1⟩
  obtain ⟨x_x, zx, pp, pq, rp, rq, ra, pa, rb⟩ := mv9 hb1 x_x zx pp pq rp rq ra pa rb
  obtain ⟨pb, p7, hb⟩ := mv3 hb1 pb p7 hb
  clear hb1
  replace q_x := x_x.al
  have e8 : Lb L8 ((co lp) * (co lq)) 27 := ⟨hL.trans (by rw [ep.out, eq.out]), Bd.mul (n := 13) (K := 13) ep.bd eq.bd⟩
  have n8 := e8.len m8 p8.pd.len
  clear hL
  go_wp2_with fail
  with_reducible refine (Lsame_any p7.pn p8.pn).mono ?_
  rintro e v22 ⟨rfl, hb1⟩
  obtain ⟨x_x, zx, pp, pq, rp, rq, ra, pa, rb⟩ := mv9 hb1 x_x zx pp pq rp rq ra pa rb
  obtain ⟨pb, p7, p8, hb⟩ := mv4 hb1 pb p7 p8 hb
  clear hb1
  replace q_x := x_x.al
  rw [e7.same e8 m7 m8 (rfl)]
  clear p7
  clear e7 m7
  clear p8
  clear e8 m8
  go_upto_region 6 with fail
  go_region_held3 (fun w' => w'.cell? ⟨w.heap.size, 0, none⟩ = some (.bool bx) ∧ w'.cell? ⟨w.heap.size, 1, none⟩ = some (.slice C kx cx))
    (first | (with_reducible exact ⟨x_x.c0, x_x.c1⟩) | go_keep)
    (first | (go_at_call 30; (with_reducible refine (PTimesS_any (J := 3) (J2 := 3) (K := 6) pa.pd.drw zx.drw (by omega) (by omega)).mono ?_); rintro e v23 ⟨L9, m9, hL, A9, k9, c9, rfl, p9, hb1⟩; replace hb1 := undrew hb1; obtain ⟨x_x, zx, pp, pq, rp, rq, ra, pa, rb⟩ := mv9 hb1 x_x zx pp pq rp rq ra pa rb; obtain ⟨pb, hb⟩ := mv2 hb1 pb hb; clear hb1; replace q_x := x_x.al; have e9 : Lb L9 (MP.Se.sm (X) (co lp)) 14 := ⟨hL.trans (by rw [ep.out]), ep.bd.sm⟩; have n9 := e9.len m9 p9.pd.len; clear hL) | (go_at_call 31; (with_reducible refine (DoTimes_any (J := 3) (J2 := 3) pp.pd zx (by omega) (by omega)).mono ?_); rintro e v24 ⟨L10, A10, k10, c10, rfl, m10, hL, p10, hb1⟩; obtain ⟨x_x, zx, pp, pq, rp, rq, ra, pa, rb⟩ := mv9 hb1 x_x zx pp pq rp rq ra pa rb; obtain ⟨pb, p9, hb⟩ := mv3 hb1 pb p9 hb; clear hb1; replace q_x := x_x.al; have e10 : Lb L10 (MP.Se.sm (X) (co lp)) 14 := ⟨hL.trans (by rw [ep.out]), ep.bd.sm⟩; have n10 := e10.len m10 p10.pd.len; clear hL) | (go_at_call 17; (with_reducible refine (Lsame_any p9.pn p10.pn).mono ?_); rintro e v25 ⟨rfl, hb1⟩; obtain ⟨x_x, zx, pp, pq, rp, rq, ra, pa, rb⟩ := mv9 hb1 x_x zx pp pq rp rq ra pa rb; obtain ⟨pb, p9, p10, hb⟩ := mv4 hb1 pb p9 p10 hb; clear hb1; replace q_x := x_x.al; rw [e9.same e10 m9 m10 (rfl)]) | (go_at_call 32; (with_reducible refine (PDeriveS_any (J := 3) pa.pd (by omega)).mono ?_); rintro e v26 ⟨L11, m11, hL, A11, k11, c11, rfl, p11, hb1⟩; obtain ⟨x_x, zx, pp, pq, rp, rq, ra, pa, rb⟩ := mv9 hb1 x_x zx pp pq rp rq ra pa rb; obtain ⟨pb, p9, p10, hb⟩ := mv4 hb1 pb p9 p10 hb; clear hb1; replace q_x := x_x.al; have e11 : Lb L11 (MP.Se.dr (co lp)) 13 := ⟨hL.trans (by rw [ep.out]), MP.Se.Bd.dr ep.bd⟩; have n11 := e11.len m11 p11.pd.len; clear hL) | (go_at_call 33; (with_reducible refine (DoDerive_any (J := 3) pp.pd (by omega) (by omega)).mono ?_); rintro e v27 ⟨L12, A12, k12, c12, rfl, m12, hL, p12, hb1⟩; obtain ⟨x_x, zx, pp, pq, rp, rq, ra, pa, rb⟩ := mv9 hb1 x_x zx pp pq rp rq ra pa rb; obtain ⟨pb, p9, p10, p11, hb⟩ := mv5 hb1 pb p9 p10 p11 hb; clear hb1; replace q_x := x_x.al; have e12 : Lb L12 (MP.Se.dr (co lp)) 13 := ⟨hL.trans (by rw [ep.out]), MP.Se.Bd.dr ep.bd⟩; have n12 := e12.len m12 p12.pd.len; clear hL) | (go_at_call 17; (with_reducible refine (Lsame_any p11.pn p12.pn).mono ?_); rintro e v28 ⟨rfl, hb1⟩; obtain ⟨x_x, zx, pp, pq, rp, rq, ra, pa, rb⟩ := mv9 hb1 x_x zx pp pq rp rq ra pa rb; obtain ⟨pb, p9, p10, p11, p12, hb⟩ := mv6 hb1 pb p9 p10 p11 p12 hb; clear hb1; replace q_x := x_x.al; rw [e11.same e12 m11 m12 (rfl)]) | (go_at_call 35; (with_reducible refine (PValue_any (J := 3) (J2 := 3) pa.pd zx (by omega)).mono ?_); rintro e v29 ⟨A13, k13, c13, rfl, y13, hb1⟩; obtain ⟨x_x, zx, pp, pq, rp, rq, ra, pa, rb⟩ := mv9 hb1 x_x zx pp pq rp rq ra pa rb; obtain ⟨pb, p9, p10, p11, p12, hb⟩ := mv6 hb1 pb p9 p10 p11 p12 hb; clear hb1; replace q_x := x_x.al; rw [ep.out] at y13 ⊢) | (go_at_call 36; (with_reducible refine (DoValue_any (J := 3) (J2 := 3) pp.pd zx (by omega) (by omega)).mono ?_); rintro e v30 ⟨A14, k14, c14, rfl, y14, hb1⟩; obtain ⟨x_x, zx, pp, pq, rp, rq, ra, pa, rb⟩ := mv9 hb1 x_x zx pp pq rp rq ra pa rb; obtain ⟨pb, p9, p10, p11, p12, y13, hb⟩ := mv7 hb1 pb p9 p10 p11 p12 y13 hb; clear hb1; replace q_x := x_x.al) | (go_at_call 34; (with_reducible refine (RExact_any y13 y14).mono ?_); rintro e v31 ⟨rfl, hb1⟩; obtain ⟨x_x, zx, pp, pq, rp, rq, ra, pa, rb⟩ := mv9 hb1 x_x zx pp pq rp rq ra pa rb; obtain ⟨pb, p9, p10, p11, p12, y13, y14, hb⟩ := mv8 hb1 pb p9 p10 p11 p12 y13 y14 hb; clear hb1; replace q_x := x_x.al; rw [show decide (MP.Se.vl (co lp) (X) = MP.Se.vl (co lp) (X)) = true from decide_eq_true (rfl)]))
  clear p9
  clear e9 m9
  clear p10
  clear e10 m10
  clear p11
  clear e11 m11
  clear p12
  clear e12 m12
  clear y13
  clear y14
  go_wp2_with fail
  with_reducible refine (LsameR_any ra rp).mono ?_
  rintro e v32 ⟨rfl, hb1⟩
  obtain ⟨x_x, zx, pp, pq, rp, rq, ra, pa, rb⟩ := mv9 hb1 x_x zx pp pq rp rq ra pa rb
  obtain ⟨pb, hb⟩ := mv2 hb1 pb hb
  clear hb1
  replace q_x := x_x.al
  rw [show decide (Rp = Rp) = true from decide_eq_true rfl]
  go_wp2_with fail
  with_reducible refine (LsameR_any rb rq).mono ?_
  rintro e v33 ⟨rfl, hb1⟩
  obtain ⟨x_x, zx, pp, pq, rp, rq, ra, pa, rb⟩ := mv9 hb1 x_x zx pp pq rp rq ra pa rb
  obtain ⟨pb, hb⟩ := mv2 hb1 pb hb
  clear hb1
  replace q_x := x_x.al
  rw [show decide (Rq = Rq) = true from decide_eq_true rfl]
  go_wp2
  go_ret
  exact ⟨rfl, hb⟩
end Go.Proofs.YtlaphcimlingaaaGreat
