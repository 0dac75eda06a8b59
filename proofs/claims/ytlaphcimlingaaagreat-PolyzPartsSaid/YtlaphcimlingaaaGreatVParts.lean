/-
  polyz: PolyzParts.
-/
import Derived.Test.YtlaphcimlingaaaGreatVRl
import Derived.Test.YtlaphcimlingaaaGreatVRz
import Derived.Test.YtlaphcimlingaaaGreatVdiv
import Derived.Test.YtlaphcimlingaaaGreatVres
namespace Go.Proofs.YtlaphcimlingaaaGreat
open Go.RowKit
open MP.Se (nf co)
set_option linter.unusedVariables false
set_option maxRecDepth 100000

theorem pn_nil {w : World} {J : Nat} : Pn w none 0 0 [] J := ⟨rfl, Nat.le_refl _, by omega, fun h => absurd h (by omega)⟩
theorem ngB0 : ngB 0 = false := rfl
/-- What the loop that writes over the quotient keeps. -/
def TzR (v0 : World) (At : Option Addr) (kt : Nat) (wx : World) : Prop := (kt = 0 ∨ ∃ g L, At = some ⟨g, 0, none⟩ ∧ v0.heap.size ≤ g ∧ kt ≤ L.length ∧ Pw wx g L 78) ∧ Below v0.heap.size v0 wx
set_option maxHeartbeats 4000000 in
/-- The law. -/
theorem PolyzParts_any {A B : Option Addr} {kp cp kq cq : Nat} {lp lq : List Int} {w : World} (ap : Pa w A kp cp lp) (aq : Pa w B kq cq lq) :
    Calls Tryz.prog 4 #[.slice A kp cp, .slice B kq cq] w fun e w' => e = .returned (.bool true) ∧ Below w.heap.size w w' := by
  have hb := Below.refl w.heap.size w
  have hlp := ap.1; have hlq := aq.1
  have hnp := MP.Se.nf_len lp; have hnq := MP.Se.nf_len lq
  obtain ⟨D, hD⟩ : ∃ d, (nf lq).length - 1 = d := ⟨_, rfl⟩
  obtain ⟨T, hT⟩ : ∃ t, (nf lp).length - D = t := ⟨_, rfl⟩
  have hTk : T ≤ kp := by omega
  have HD := Lib.hid hD; have HT := Lib.hid hT
  have HG : Hid (co lq ≠ MP.Se.c 0 → MP.Se.Dg (co lq) D) := Lib.hid fun h => dg_lst (by have : (nf lq).length ≠ 0 := fun h2 => h (MP.Se.nf_nil_iff.1 (List.eq_nil_of_length_eq_zero h2)); omega)
  clear hD hT hnp hnq hlp hlq
  by_cases hq : co lq = MP.Se.c 0
  · have HQ := Lib.hid hq; clear hq
    go_enter Tryz.func4, Tryz.ntmps4
    go_wp2_with fail
    with_reducible refine (Lshown_any).mono ?_
    rintro e v1 ⟨rfl, hb1⟩
    obtain ⟨ap, aq, hb⟩ := mv3 hb1 ap aq hb
    clear hb1
    go_wp2_with fail
    with_reducible refine (Lfits_any ap).mono ?_
    rintro e v2 ⟨β, rfl, h1, hb1⟩
    obtain ⟨ap, aq, hb⟩ := mv3 hb1 ap aq hb
    clear hb1
    cases β
    · go_wp2; go_ret; exact ⟨rfl, hb⟩
    obtain ⟨ep, np, pp⟩ := h1 rfl
    clear h1 ap
    go_wp2_with fail
    with_reducible refine (Lfits_any aq).mono ?_
    rintro e v3 ⟨β, rfl, h1, hb1⟩
    obtain ⟨aq, pp, hb⟩ := mv3 hb1 aq pp hb
    clear hb1
    cases β
    · go_wp2; go_ret; exact ⟨rfl, hb⟩
    obtain ⟨eq, nq, pq⟩ := h1 rfl
    clear h1 aq
    obtain ⟨Rp, rp, hlp, hjp⟩ := pp.pd.raw
    have HLp := Lib.hid hlp; have HJp := Lib.hid hjp; clear hlp hjp
    obtain ⟨Rq, rq, hlq, hjq⟩ := pq.pd.raw
    have HLq := Lib.hid hlq; have HJq := Lib.hid hjq; clear hlq hjq
    go_wp2_with fail
    with_reducible refine (DoOwn_any rp (by omega) (fun r hr => Nat.le_trans (HJp.out r hr) (by omega))).mono ?_
    rintro e v4 ⟨Aa, na, ca, rfl, ra, hb1⟩
    obtain ⟨pp, pq, rp, rq, hb⟩ := mv5 hb1 pp pq rp rq hb
    clear hb1
    obtain rfl : kp = na := by rw [← ra.len, rp.len]
    have pa := (ra.pd HJp.out).pe
    rw [← HLp.out] at pa
    go_wp2_with fail
    with_reducible refine (DoOwn_any rq (by omega) (fun r hr => Nat.le_trans (HJq.out r hr) (by omega))).mono ?_
    rintro e v5 ⟨Ab, nb, cb, rfl, rb, hb1⟩
    obtain ⟨pp, pq, rp, rq, ra, pa, hb⟩ := mv7 hb1 pp pq rp rq ra pa hb
    clear hb1
    obtain rfl : kq = nb := by rw [← rb.len, rq.len]
    have pb := (rb.pd HJq.out).pe
    rw [← HLq.out] at pb
    have Hpp9 := Lib.hid pp
    have Hpq9 := Lib.hid pq
    have Hpa9 := Lib.hid pa
    have Hpb9 := Lib.hid pb
    have Hrp9 := Lib.hid rp
    have Hrq9 := Lib.hid rq
    have Hra9 := Lib.hid ra
    have Hrb9 := Lib.hid rb
    have HB9 := Lib.hid hb
    have hv := Below.refl v5.heap.size v5
    clear pp pq pa pb rp rq ra rb hb
    go_wp2_with fail
    go_loopw [8] (fun kv wr => ∃ i : Nat, i ≤ 2 ∧ kv = .int .i64 (i : Int) ∧ Below v5.heap.size v5 wr) (fun kv _ => 2 - (intOf kv).toNat)
    case atStart => exact ⟨0, by omega, rfl, hv⟩
    case round =>
      clear hv
      obtain ⟨i, hi, rfl, hb⟩ := hrel
      have pp := Hpp9.out; have pq := Hpq9.out; have pa := Hpa9.out; have pb := Hpb9.out; have rp := Hrp9.out; have rq := Hrq9.out; have ra := Hra9.out; have rb := Hrb9.out
      obtain ⟨pp, pq, pa, pb, rp, rq, ra, rb⟩ := mv8 hb pp pq pa pb rp rq ra rb
      rcases (show 2 = i ∨ i < 2 by omega) with hi2 | hi2
      · skip
        subst hi2
        go_wp2_with fail
        with_reducible refine (LsameR_any ra rp).mono ?_
        rintro e v6 ⟨rfl, hb1⟩
        obtain ⟨pp, pq, pa, pb, rp, rq, ra, rb, hb⟩ := mv9 hb1 pp pq pa pb rp rq ra rb hb
        clear hb1
        rw [show decide (Rp = Rp) = true from decide_eq_true rfl]
        go_wp2_with fail
        with_reducible refine (LsameR_any rb rq).mono ?_
        rintro e v7 ⟨rfl, hb1⟩
        obtain ⟨pp, pq, pa, pb, rp, rq, ra, rb, hb⟩ := mv9 hb1 pp pq pa pb rp rq ra rb hb
        clear hb1
        rw [show decide (Rq = Rq) = true from decide_eq_true rfl]
        go_wp2
        go_ret
        exact ⟨rfl, bthen HB9.out hb⟩
      · skip
        go_wp2_with fail
        with_reducible refine (PDivide_any (J := 3) (J2 := 3) (K := 78) pa.pd pb.pd (by omega) (by omega) (by omega)).mono ?_
        rintro e v6 ⟨hb1, hcase⟩
        obtain ⟨pp, pq, pa, pb, rp, rq, ra, rb, hb⟩ := mv9 hb1 pp pq pa pb rp rq ra rb hb
        clear hb1
        obtain ⟨_, rfl⟩ := hcase.resolve_right (fun h => h.elim (fun h => h.1 HQ.out) (fun h => h.1 HQ.out))
        go_wp2_with fail
        with_reducible refine (DoDivide_any (J := 3) (J2 := 3) (KF := 1296) pp.pd pq.pd (by omega) (by omega) (by omega) (by omega)).mono ?_
        rintro e v7 ⟨hb1, hcase⟩
        obtain ⟨pp, pq, pa, pb, rp, rq, ra, rb, hb⟩ := mv9 hb1 pp pq pa pb rp rq ra rb hb
        clear hb1
        obtain ⟨_, rfl⟩ := hcase.resolve_right (fun h => h.elim (fun h => h.1 HQ.out) (fun h => h.1 HQ.out))
        go_wp2_with fail
        with_reducible refine (Lsame_any (l := []) (l2 := []) (J := 0) (J2 := 0) pn_nil pn_nil).mono ?_
        rintro e v8 ⟨rfl, hb1⟩
        obtain ⟨pp, pq, pa, pb, rp, rq, ra, rb, hb⟩ := mv9 hb1 pp pq pa pb rp rq ra rb hb
        clear hb1
        rw [show decide (([] : List Int) = []) = true from rfl]
        go_wp2_with fail
        with_reducible refine (PRest_any (J := 3) (J2 := 3) (d := D) (T := T) (K := 59) (K2 := 102) pa.pd pb.pd (by omega) HD.out HT.out (by omega) (by omega) (by omega) (by omega)).mono ?_
        rintro e v9 ⟨hb1, hcase⟩
        obtain ⟨pp, pq, pa, pb, rp, rq, ra, rb, hb⟩ := mv9 hb1 pp pq pa pb rp rq ra rb hb
        clear hb1
        obtain ⟨_, rfl⟩ := hcase.resolve_right (fun h => h.1 HQ.out)
        go_wp2_with fail
        with_reducible refine (DoRest_any (J := 3) (J2 := 3) (d := D) (T := T) (KP := 46) (KF := 1339) pp.pd pq.pd HD.out HT.out (by omega) (by omega) (by omega) (by omega) (by omega)).mono ?_
        rintro e v10 ⟨hb1, hcase⟩
        obtain ⟨pp, pq, pa, pb, rp, rq, ra, rb, hb⟩ := mv9 hb1 pp pq pa pb rp rq ra rb hb
        clear hb1
        obtain ⟨_, rfl⟩ := hcase.resolve_right (fun h => h.1 HQ.out)
        go_wp2_with fail
        with_reducible refine (Lsame_any (l := []) (l2 := []) (J := 0) (J2 := 0) pn_nil pn_nil).mono ?_
        rintro e v11 ⟨rfl, hb1⟩
        obtain ⟨pp, pq, pa, pb, rp, rq, ra, rb, hb⟩ := mv9 hb1 pp pq pa pb rp rq ra rb hb
        clear hb1
        rw [show decide (([] : List Int) = []) = true from rfl]
        go_wp2_with fail
        with_reducible refine (Lsame_any (l := []) (l2 := []) (J := 0) (J2 := 0) pn_nil pn_nil).mono ?_
        rintro e v12 ⟨rfl, hb1⟩
        obtain ⟨pp, pq, pa, pb, rp, rq, ra, rb, hb⟩ := mv9 hb1 pp pq pa pb rp rq ra rb hb
        clear hb1
        rw [show decide (([] : List Int) = []) = true from rfl]
        clear pp pq pa pb rp rq ra rb
        go_wp2_with fail
        go_loopw [19] (fun kv wx => kv = .int .i64 0 ∧ Below v5.heap.size v5 wx) (fun _ _ => 0)
        case atStart => exact ⟨rfl, hb⟩
        case round =>
          clear hb
          obtain ⟨rfl, hb⟩ := hrel
          go_wp2_with fail
          exact ⟨⟨i + 1, by omega, by go_num, hb⟩, by simp [intOf]; omega⟩
  have HQ := Lib.hid (show co lq ≠ MP.Se.c 0 from hq); clear hq
  by_cases hdv : MP.Se.Dv (co lq) (co lp)
  · have HDV := Lib.hid hdv; clear hdv
    go_enter Tryz.func4, Tryz.ntmps4
    go_wp2_with fail
    with_reducible refine (Lshown_any).mono ?_
    rintro e v1 ⟨rfl, hb1⟩
    obtain ⟨ap, aq, hb⟩ := mv3 hb1 ap aq hb
    clear hb1
    go_wp2_with fail
    with_reducible refine (Lfits_any ap).mono ?_
    rintro e v2 ⟨β, rfl, h1, hb1⟩
    obtain ⟨ap, aq, hb⟩ := mv3 hb1 ap aq hb
    clear hb1
    cases β
    · go_wp2; go_ret; exact ⟨rfl, hb⟩
    obtain ⟨ep, np, pp⟩ := h1 rfl
    clear h1 ap
    go_wp2_with fail
    with_reducible refine (Lfits_any aq).mono ?_
    rintro e v3 ⟨β, rfl, h1, hb1⟩
    obtain ⟨aq, pp, hb⟩ := mv3 hb1 aq pp hb
    clear hb1
    cases β
    · go_wp2; go_ret; exact ⟨rfl, hb⟩
    obtain ⟨eq, nq, pq⟩ := h1 rfl
    clear h1 aq
    obtain ⟨Rp, rp, hlp, hjp⟩ := pp.pd.raw
    have HLp := Lib.hid hlp; have HJp := Lib.hid hjp; clear hlp hjp
    obtain ⟨Rq, rq, hlq, hjq⟩ := pq.pd.raw
    have HLq := Lib.hid hlq; have HJq := Lib.hid hjq; clear hlq hjq
    go_wp2_with fail
    with_reducible refine (DoOwn_any rp (by omega) (fun r hr => Nat.le_trans (HJp.out r hr) (by omega))).mono ?_
    rintro e v4 ⟨Aa, na, ca, rfl, ra, hb1⟩
    obtain ⟨pp, pq, rp, rq, hb⟩ := mv5 hb1 pp pq rp rq hb
    clear hb1
    obtain rfl : kp = na := by rw [← ra.len, rp.len]
    have pa := (ra.pd HJp.out).pe
    rw [← HLp.out] at pa
    go_wp2_with fail
    with_reducible refine (DoOwn_any rq (by omega) (fun r hr => Nat.le_trans (HJq.out r hr) (by omega))).mono ?_
    rintro e v5 ⟨Ab, nb, cb, rfl, rb, hb1⟩
    obtain ⟨pp, pq, rp, rq, ra, pa, hb⟩ := mv7 hb1 pp pq rp rq ra pa hb
    clear hb1
    obtain rfl : kq = nb := by rw [← rb.len, rq.len]
    have pb := (rb.pd HJq.out).pe
    rw [← HLq.out] at pb
    have Hpp9 := Lib.hid pp
    have Hpq9 := Lib.hid pq
    have Hpa9 := Lib.hid pa
    have Hpb9 := Lib.hid pb
    have Hrp9 := Lib.hid rp
    have Hrq9 := Lib.hid rq
    have Hra9 := Lib.hid ra
    have Hrb9 := Lib.hid rb
    have HB9 := Lib.hid hb
    have hv := Below.refl v5.heap.size v5
    clear pp pq pa pb rp rq ra rb hb
    go_wp2_with fail
    go_loopw [8] (fun kv wr => ∃ i : Nat, i ≤ 2 ∧ kv = .int .i64 (i : Int) ∧ Below v5.heap.size v5 wr) (fun kv _ => 2 - (intOf kv).toNat)
    case atStart => exact ⟨0, by omega, rfl, hv⟩
    case round =>
      clear hv
      obtain ⟨i, hi, rfl, hb⟩ := hrel
      have HBV := Lib.hid hb.size
      have pp := Hpp9.out; have pq := Hpq9.out; have pa := Hpa9.out; have pb := Hpb9.out; have rp := Hrp9.out; have rq := Hrq9.out; have ra := Hra9.out; have rb := Hrb9.out
      obtain ⟨pp, pq, pa, pb, rp, rq, ra, rb⟩ := mv8 hb pp pq pa pb rp rq ra rb
      rcases (show 2 = i ∨ i < 2 by omega) with hi2 | hi2
      · skip
        subst hi2
        go_wp2_with fail
        with_reducible refine (LsameR_any ra rp).mono ?_
        rintro e v6 ⟨rfl, hb1⟩
        obtain ⟨pp, pq, pa, pb, rp, rq, ra, rb, hb⟩ := mv9 hb1 pp pq pa pb rp rq ra rb hb
        clear hb1
        rw [show decide (Rp = Rp) = true from decide_eq_true rfl]
        go_wp2_with fail
        with_reducible refine (LsameR_any rb rq).mono ?_
        rintro e v7 ⟨rfl, hb1⟩
        obtain ⟨pp, pq, pa, pb, rp, rq, ra, rb, hb⟩ := mv9 hb1 pp pq pa pb rp rq ra rb hb
        clear hb1
        rw [show decide (Rq = Rq) = true from decide_eq_true rfl]
        go_wp2
        go_ret
        exact ⟨rfl, bthen HB9.out hb⟩
      · skip
        go_wp2_with fail
        with_reducible refine (PDivide_any (J := 3) (J2 := 3) (K := 78) pa.pd pb.pd (by omega) (by omega) (by omega)).mono ?_
        rintro e v6 ⟨hb1, hcase⟩
        obtain ⟨pp, pq, pa, pb, rp, rq, ra, rb, hb⟩ := mv9 hb1 pp pq pa pb rp rq ra rb hb
        clear hb1
        obtain ⟨_, Lt, At, kt, ct, mt, et, rfl, pt⟩ := (hcase.resolve_left (fun h => HQ.out h.1)).resolve_left (fun h => h.2.1 HDV.out)
        have Et := Lib.hid et; have Mt := Lib.hid mt; clear et mt
        go_wp2_with fail
        with_reducible refine (DoDivide_any (J := 3) (J2 := 3) (KF := 1296) pp.pd pq.pd (by omega) (by omega) (by omega) (by omega)).mono ?_
        rintro e v7 ⟨hb1, hcase⟩
        obtain ⟨pp, pq, pa, pb, rp, rq, ra, rb, pt⟩ := mv9 hb1 pp pq pa pb rp rq ra rb pt
        replace hb := Mv.mv hb hb1
        clear hb1
        obtain ⟨_, Lu, Au, ku, cu, mu, eu, rfl, pu⟩ := (hcase.resolve_left (fun h => HQ.out h.1)).resolve_left (fun h => h.2.1 HDV.out)
        have Eu := Lib.hid eu; have Mu := Lib.hid mu; clear eu mu
        have EU : Hid (decide (Lt = Lu) = true) := Lib.hid (decide_eq_true (MP.Se.nm_ext Mt.out Mu.out (MP.Se.mul_cancel (MP.Se.co_fn lq) HQ.out (MP.Se.co_fn Lt) (MP.Se.co_fn Lu) (Et.out.symm.trans Eu.out))))
        go_wp2_with fail
        with_reducible refine (Lsame_any pt.pn pu).mono ?_
        rintro e v8 ⟨rfl, hb1⟩
        obtain ⟨pp, pq, pa, pb, rp, rq, ra, rb, pt⟩ := mv9 hb1 pp pq pa pb rp rq ra rb pt
        obtain ⟨pu, hb⟩ := mv2 hb1 pu hb
        clear hb1
        rw [EU.out]
        go_wp2_with fail
        with_reducible refine (PRest_any (J := 3) (J2 := 3) (d := D) (T := T) (K := 59) (K2 := 102) pa.pd pb.pd (by omega) HD.out HT.out (by omega) (by omega) (by omega) (by omega)).mono ?_
        rintro e v9 ⟨hb1, hcase⟩
        obtain ⟨pp, pq, pa, pb, rp, rq, ra, rb, pt⟩ := mv9 hb1 pp pq pa pb rp rq ra rb pt
        obtain ⟨pu, hb⟩ := mv2 hb1 pu hb
        clear hb1
        obtain ⟨_, Lx, Ax, kx, cx, Lr, Ar, kr, cr, mx, mr, ex, br, rfl, px, pr⟩ := hcase.resolve_left (fun h => HQ.out h.1)
        have Ex := Lib.hid ex; have Mx := Lib.hid mx; have Mr := Lib.hid mr; have Br := Lib.hid br; clear ex mx mr br
        go_wp2_with fail
        with_reducible refine (DoRest_any (J := 3) (J2 := 3) (d := D) (T := T) (KP := 46) (KF := 1339) pp.pd pq.pd HD.out HT.out (by omega) (by omega) (by omega) (by omega) (by omega)).mono ?_
        rintro e v10 ⟨hb1, hcase⟩
        obtain ⟨pp, pq, pa, pb, rp, rq, ra, rb, pt⟩ := mv9 hb1 pp pq pa pb rp rq ra rb pt
        obtain ⟨pu, px, pr, hb⟩ := mv4 hb1 pu px pr hb
        clear hb1
        obtain ⟨_, Ly, Ay, ky, cy, Ls, As, ks, cs, my, ms, ey, bs, rfl, py, ps⟩ := hcase.resolve_left (fun h => HQ.out h.1)
        have Ey := Lib.hid ey; have My := Lib.hid my; have Ms := Lib.hid ms; have Bs := Lib.hid bs; clear ey my ms bs
        have HU := Lib.hid (div_uni (HG.out HQ.out) (MP.Se.co_fn Lx) (MP.Se.co_fn Ly) Br.out Bs.out (Ex.out.symm.trans Ey.out))
        have EX : Hid (decide (Lx = Ly) = true) := Lib.hid (decide_eq_true (MP.Se.nm_ext Mx.out My.out HU.out.1))
        have ER : Hid (decide (Lr = Ls) = true) := Lib.hid (decide_eq_true (MP.Se.nm_ext Mr.out Ms.out HU.out.2))
        go_wp2_with fail
        with_reducible refine (Lsame_any px.pn py).mono ?_
        rintro e v11 ⟨rfl, hb1⟩
        obtain ⟨pp, pq, pa, pb, rp, rq, ra, rb, pt⟩ := mv9 hb1 pp pq pa pb rp rq ra rb pt
        obtain ⟨pu, px, pr, py, ps, hb⟩ := mv6 hb1 pu px pr py ps hb
        clear hb1
        rw [EX.out]
        go_wp2_with fail
        with_reducible refine (Lsame_any pr.pn ps).mono ?_
        rintro e v12 ⟨rfl, hb1⟩
        obtain ⟨pp, pq, pa, pb, rp, rq, ra, rb, pt⟩ := mv9 hb1 pp pq pa pb rp rq ra rb pt
        obtain ⟨pu, px, pr, py, ps, hb⟩ := mv6 hb1 pu px pr py ps hb
        clear hb1
        rw [ER.out]
        have ktb : kt ≤ 100000 := pt.pd.big
        have tz : TzR v5 At kt v12 := by
            refine ⟨?_, hb⟩
            rcases pt with ⟨_, h, _⟩ | ⟨g, L, e, hg, hc, hn, hp, _⟩
            · exact .inl h
            · exact .inr ⟨g, L, e, by have := HBV.out; omega, by omega, hp⟩
        clear pp pq pa pb rp rq ra rb pt pu px pr py ps hb
        go_wp2_with fail
        go_loopw [19] (fun kv wx => ∃ k : Nat, k ≤ kt ∧ kv = .int .i64 (k : Int) ∧ TzR v5 At kt wx) (fun kv _ => kt - (intOf kv).toNat)
        case atStart => exact ⟨0, by omega, rfl, tz⟩
        case round =>
          clear tz
          obtain ⟨k, hk, rfl, tz, hb⟩ := hrel
          rcases (show kt = k ∨ k < kt by omega) with hkt | hkt
          · skip
            subst hkt
            go_wp2_with fail
            exact ⟨⟨i + 1, by omega, by go_num, hb⟩, by simp [intOf]; omega⟩
          · skip
            obtain ⟨g, L, rfl, hg, hL, hp⟩ := tz.resolve_left (by omega)
            have hkL : k < L.length := by omega
            obtain ⟨A9, n9, c9, q0, q1, _⟩ := hp.cells (k := k) hkL
            generalize L[k] = X9 at *
            have f0 := hp.fr (k * 2); have f1 := hp.fr (k * 2 + 1)
            have HL := Lib.hid hL; have HKL := Lib.hid hkL; clear hL hkL
            go_wp2_with fail
            obtain ⟨hs, hp2⟩ := hp.set (X := 0) (k := k) HKL.out (Zn.zero _ 78)
            refine ⟨⟨k + 1, by omega, by go_num, .inr ⟨g, _, rfl, hg, by rw [List.length_set]; exact HL.out, hp2⟩, ms1 hs hg hb⟩, by simp [intOf]; omega⟩
  · have HDV := Lib.hid hdv; clear hdv
    go_enter Tryz.func4, Tryz.ntmps4
    go_wp2_with fail
    with_reducible refine (Lshown_any).mono ?_
    rintro e v1 ⟨rfl, hb1⟩
    obtain ⟨ap, aq, hb⟩ := mv3 hb1 ap aq hb
    clear hb1
    go_wp2_with fail
    with_reducible refine (Lfits_any ap).mono ?_
    rintro e v2 ⟨β, rfl, h1, hb1⟩
    obtain ⟨ap, aq, hb⟩ := mv3 hb1 ap aq hb
    clear hb1
    cases β
    · go_wp2; go_ret; exact ⟨rfl, hb⟩
    obtain ⟨ep, np, pp⟩ := h1 rfl
    clear h1 ap
    go_wp2_with fail
    with_reducible refine (Lfits_any aq).mono ?_
    rintro e v3 ⟨β, rfl, h1, hb1⟩
    obtain ⟨aq, pp, hb⟩ := mv3 hb1 aq pp hb
    clear hb1
    cases β
    · go_wp2; go_ret; exact ⟨rfl, hb⟩
    obtain ⟨eq, nq, pq⟩ := h1 rfl
    clear h1 aq
    obtain ⟨Rp, rp, hlp, hjp⟩ := pp.pd.raw
    have HLp := Lib.hid hlp; have HJp := Lib.hid hjp; clear hlp hjp
    obtain ⟨Rq, rq, hlq, hjq⟩ := pq.pd.raw
    have HLq := Lib.hid hlq; have HJq := Lib.hid hjq; clear hlq hjq
    go_wp2_with fail
    with_reducible refine (DoOwn_any rp (by omega) (fun r hr => Nat.le_trans (HJp.out r hr) (by omega))).mono ?_
    rintro e v4 ⟨Aa, na, ca, rfl, ra, hb1⟩
    obtain ⟨pp, pq, rp, rq, hb⟩ := mv5 hb1 pp pq rp rq hb
    clear hb1
    obtain rfl : kp = na := by rw [← ra.len, rp.len]
    have pa := (ra.pd HJp.out).pe
    rw [← HLp.out] at pa
    go_wp2_with fail
    with_reducible refine (DoOwn_any rq (by omega) (fun r hr => Nat.le_trans (HJq.out r hr) (by omega))).mono ?_
    rintro e v5 ⟨Ab, nb, cb, rfl, rb, hb1⟩
    obtain ⟨pp, pq, rp, rq, ra, pa, hb⟩ := mv7 hb1 pp pq rp rq ra pa hb
    clear hb1
    obtain rfl : kq = nb := by rw [← rb.len, rq.len]
    have pb := (rb.pd HJq.out).pe
    rw [← HLq.out] at pb
    have Hpp9 := Lib.hid pp
    have Hpq9 := Lib.hid pq
    have Hpa9 := Lib.hid pa
    have Hpb9 := Lib.hid pb
    have Hrp9 := Lib.hid rp
    have Hrq9 := Lib.hid rq
    have Hra9 := Lib.hid ra
    have Hrb9 := Lib.hid rb
    have HB9 := Lib.hid hb
    have hv := Below.refl v5.heap.size v5
    clear pp pq pa pb rp rq ra rb hb
    go_wp2_with fail
    go_loopw [8] (fun kv wr => ∃ i : Nat, i ≤ 2 ∧ kv = .int .i64 (i : Int) ∧ Below v5.heap.size v5 wr) (fun kv _ => 2 - (intOf kv).toNat)
    case atStart => exact ⟨0, by omega, rfl, hv⟩
    case round =>
      clear hv
      obtain ⟨i, hi, rfl, hb⟩ := hrel
      have pp := Hpp9.out; have pq := Hpq9.out; have pa := Hpa9.out; have pb := Hpb9.out; have rp := Hrp9.out; have rq := Hrq9.out; have ra := Hra9.out; have rb := Hrb9.out
      obtain ⟨pp, pq, pa, pb, rp, rq, ra, rb⟩ := mv8 hb pp pq pa pb rp rq ra rb
      rcases (show 2 = i ∨ i < 2 by omega) with hi2 | hi2
      · skip
        subst hi2
        go_wp2_with fail
        with_reducible refine (LsameR_any ra rp).mono ?_
        rintro e v6 ⟨rfl, hb1⟩
        obtain ⟨pp, pq, pa, pb, rp, rq, ra, rb, hb⟩ := mv9 hb1 pp pq pa pb rp rq ra rb hb
        clear hb1
        rw [show decide (Rp = Rp) = true from decide_eq_true rfl]
        go_wp2_with fail
        with_reducible refine (LsameR_any rb rq).mono ?_
        rintro e v7 ⟨rfl, hb1⟩
        obtain ⟨pp, pq, pa, pb, rp, rq, ra, rb, hb⟩ := mv9 hb1 pp pq pa pb rp rq ra rb hb
        clear hb1
        rw [show decide (Rq = Rq) = true from decide_eq_true rfl]
        go_wp2
        go_ret
        exact ⟨rfl, bthen HB9.out hb⟩
      · skip
        go_wp2_with fail
        with_reducible refine (PDivide_any (J := 3) (J2 := 3) (K := 78) pa.pd pb.pd (by omega) (by omega) (by omega)).mono ?_
        rintro e v6 ⟨hb1, hcase⟩
        obtain ⟨pp, pq, pa, pb, rp, rq, ra, rb, hb⟩ := mv9 hb1 pp pq pa pb rp rq ra rb hb
        clear hb1
        obtain ⟨_, _, rfl⟩ := (hcase.resolve_left (fun h => HQ.out h.1)).resolve_right (fun ⟨_, L, _, _, _, _, e, _⟩ => HDV.out ⟨co L, MP.Se.co_fn L, e⟩)
        go_wp2_with fail
        with_reducible refine (DoDivide_any (J := 3) (J2 := 3) (KF := 1296) pp.pd pq.pd (by omega) (by omega) (by omega) (by omega)).mono ?_
        rintro e v7 ⟨hb1, hcase⟩
        obtain ⟨pp, pq, pa, pb, rp, rq, ra, rb, hb⟩ := mv9 hb1 pp pq pa pb rp rq ra rb hb
        clear hb1
        obtain ⟨_, _, rfl⟩ := (hcase.resolve_left (fun h => HQ.out h.1)).resolve_right (fun ⟨_, L, _, _, _, _, e, _⟩ => HDV.out ⟨co L, MP.Se.co_fn L, e⟩)
        go_wp2_with fail
        with_reducible refine (Lsame_any (l := []) (l2 := []) (J := 0) (J2 := 0) pn_nil pn_nil).mono ?_
        rintro e v8 ⟨rfl, hb1⟩
        obtain ⟨pp, pq, pa, pb, rp, rq, ra, rb, hb⟩ := mv9 hb1 pp pq pa pb rp rq ra rb hb
        clear hb1
        rw [show decide (([] : List Int) = []) = true from rfl]
        go_wp2_with fail
        with_reducible refine (PRest_any (J := 3) (J2 := 3) (d := D) (T := T) (K := 59) (K2 := 102) pa.pd pb.pd (by omega) HD.out HT.out (by omega) (by omega) (by omega) (by omega)).mono ?_
        rintro e v9 ⟨hb1, hcase⟩
        obtain ⟨pp, pq, pa, pb, rp, rq, ra, rb, hb⟩ := mv9 hb1 pp pq pa pb rp rq ra rb hb
        clear hb1
        obtain ⟨_, Lx, Ax, kx, cx, Lr, Ar, kr, cr, mx, mr, ex, br, rfl, px, pr⟩ := hcase.resolve_left (fun h => HQ.out h.1)
        have Ex := Lib.hid ex; have Mx := Lib.hid mx; have Mr := Lib.hid mr; have Br := Lib.hid br; clear ex mx mr br
        go_wp2_with fail
        with_reducible refine (DoRest_any (J := 3) (J2 := 3) (d := D) (T := T) (KP := 46) (KF := 1339) pp.pd pq.pd HD.out HT.out (by omega) (by omega) (by omega) (by omega) (by omega)).mono ?_
        rintro e v10 ⟨hb1, hcase⟩
        obtain ⟨pp, pq, pa, pb, rp, rq, ra, rb, px⟩ := mv9 hb1 pp pq pa pb rp rq ra rb px
        obtain ⟨pr, hb⟩ := mv2 hb1 pr hb
        clear hb1
        obtain ⟨_, Ly, Ay, ky, cy, Ls, As, ks, cs, my, ms, ey, bs, rfl, py, ps⟩ := hcase.resolve_left (fun h => HQ.out h.1)
        have Ey := Lib.hid ey; have My := Lib.hid my; have Ms := Lib.hid ms; have Bs := Lib.hid bs; clear ey my ms bs
        have HU := Lib.hid (div_uni (HG.out HQ.out) (MP.Se.co_fn Lx) (MP.Se.co_fn Ly) Br.out Bs.out (Ex.out.symm.trans Ey.out))
        have EX : Hid (decide (Lx = Ly) = true) := Lib.hid (decide_eq_true (MP.Se.nm_ext Mx.out My.out HU.out.1))
        have ER : Hid (decide (Lr = Ls) = true) := Lib.hid (decide_eq_true (MP.Se.nm_ext Mr.out Ms.out HU.out.2))
        go_wp2_with fail
        with_reducible refine (Lsame_any px.pn py).mono ?_
        rintro e v11 ⟨rfl, hb1⟩
        obtain ⟨pp, pq, pa, pb, rp, rq, ra, rb, px⟩ := mv9 hb1 pp pq pa pb rp rq ra rb px
        obtain ⟨pr, py, ps, hb⟩ := mv4 hb1 pr py ps hb
        clear hb1
        rw [EX.out]
        go_wp2_with fail
        with_reducible refine (Lsame_any pr.pn ps).mono ?_
        rintro e v12 ⟨rfl, hb1⟩
        obtain ⟨pp, pq, pa, pb, rp, rq, ra, rb, px⟩ := mv9 hb1 pp pq pa pb rp rq ra rb px
        obtain ⟨pr, py, ps, hb⟩ := mv4 hb1 pr py ps hb
        clear hb1
        rw [ER.out]
        clear pp pq pa pb rp rq ra rb px pr py ps
        go_wp2_with fail
        go_loopw [19] (fun kv wx => kv = .int .i64 0 ∧ Below v5.heap.size v5 wx) (fun _ _ => 0)
        case atStart => exact ⟨rfl, hb⟩
        case round =>
          clear hb
          obtain ⟨rfl, hb⟩ := hrel
          go_wp2_with fail
          exact ⟨⟨i + 1, by omega, by go_num, hb⟩, by simp [intOf]; omega⟩
end Go.Proofs.YtlaphcimlingaaaGreat
