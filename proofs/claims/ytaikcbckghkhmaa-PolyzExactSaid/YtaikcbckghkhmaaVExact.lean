/-
  polyz: PolyzExact.
-/
import Derived.Test.YtaikcbckghkhmaaVlaw
import Derived.Test.YtaikcbckghkhmaaVsame
namespace Go.Proofs.Ytaikcbckghkhmaa
open Go.RowKit
open MP.Se (nf co)
set_option linter.unusedVariables false
set_option maxRecDepth 100000

theorem dv_one {b : MP.Se} (hb : MP.Se.Fn b) (h : MP.Se.Dv b (MP.Se.c 1)) : b = MP.Se.c 1 ∨ b = MP.Se.c (-1) := by
  obtain ⟨t, ht, e⟩ := h
  have n1 : MP.Se.c 1 ≠ MP.Se.c 0 := fun h => by have := MP.Se.c_inj h; omega
  have hb0 : b ≠ MP.Se.c 0 := fun h => n1 (by rw [e, h, MP.Se.zero_mul])
  have ht0 : t ≠ MP.Se.c 0 := fun h => n1 (by rw [e, h, MP.Se.mul_zero])
  obtain ⟨m, hm⟩ := hb.dg hb0
  obtain ⟨k, hk⟩ := ht.dg ht0
  have h0 : MP.Se.Dg (MP.Se.c 1) 0 := ⟨by rw [MP.Se.c_0]; omega, MP.Se.Bd.c 1⟩
  have hmk := hm.mul hk
  rw [← e] at hmk
  have := hmk.uniq h0
  obtain rfl : m = 0 := by omega
  have e0 := congrArg (fun p => p 0) e
  simp only [MP.Se.c_0, MP.Se.mul_0] at e0
  have hbc : b = MP.Se.c (b 0) := MP.Se.ext fun i => by
    cases i with
    | zero => rfl
    | succ i => rw [hm.2 (i + 1) (by omega), MP.Se.c_at]
  have hn : (b 0).natAbs * (t 0).natAbs = 1 := by rw [← Int.natAbs_mul, ← e0]; rfl
  have := Nat.eq_one_of_mul_eq_one_right hn
  rcases (show b 0 = 1 ∨ b 0 = -1 by omega) with h | h
  · left; rw [hbc, h]
  · right; rw [hbc, h]
theorem dv_more {a b : MP.Se} (ha : MP.Se.Fn a) (h : MP.Se.Dv b (a * b + MP.Se.c 1)) : MP.Se.Dv b (MP.Se.c 1) := by
  have := h.sub (MP.Se.Dv.left (p := b) ha)
  rwa [MP.Se.add_comm, MP.Se.sub_eq, MP.Se.add_assoc, MP.Se.add_neg, MP.Se.add_zero] at this
theorem dv_by1 {p : MP.Se} (hp : MP.Se.Fn p) : MP.Se.Dv (MP.Se.c 1) p := ⟨p, hp, (MP.Se.one_mul p).symm⟩
theorem dv_bym {p : MP.Se} (hp : MP.Se.Fn p) : MP.Se.Dv (MP.Se.c (-1)) p := ⟨-p, hp.neg, by rw [MP.Se.c_mul, MP.Se.sm_neg]; exact MP.Se.ext fun i => (Int.neg_neg _).symm⟩
theorem quo_bd {q t : MP.Se} {N : Nat} (hq : MP.Se.Fn q) (ht : MP.Se.Fn t) (h0 : q ≠ MP.Se.c 0) (h : MP.Se.Bd (q * t) N) : MP.Se.Bd t N := by
  by_cases h1 : t = MP.Se.c 0
  · rw [h1]; exact MP.Se.Bd.c0 _
  obtain ⟨m, hm⟩ := hq.dg h0
  obtain ⟨k, hk⟩ := ht.dg h1
  have hmk := hm.mul hk
  by_cases hN : N ≤ m + k
  · exact absurd (h _ hN) hmk.1
  · exact hk.2.le (by omega)
theorem nf_one {l : List Int} {a : Int} (h : co l = MP.Se.c a) : decide (nf l = nf [a]) = true := decide_eq_true (MP.Se.nf_ext (h.trans (co_one a).symm))
theorem nf_not {l : List Int} {a : Int} (h : co l ≠ MP.Se.c a) : decide (nf l = nf [a]) = false := decide_eq_false fun e => h (by rw [← MP.Se.co_nf l, e, MP.Se.co_nf, co_one])
set_option maxHeartbeats 2000000 in
/-- The law. -/
theorem PolyzExact_any {A B : Option Addr} {kp cp kq cq : Nat} {lp lq : List Int} {w : World} (ap : Pa w A kp cp lp) (aq : Pa w B kq cq lq) :
    Calls Try.prog 8 #[.slice A kp cp, .slice B kq cq] w fun e w' => e = .returned (.bool true) ∧ Below w.heap.size w w' := by
  have hb := Below.refl w.heap.size w
  by_cases hq : co lq = MP.Se.c 0
  · skip
    have HQ := Lib.hid hq; clear hq
    go_enter Try.func8, Try.ntmps8
    go_wp2_with fail
    with_reducible refine (Lshown_any).mono ?_
    rintro e v1 ⟨rfl, hb1⟩
    obtain ⟨ap, aq, hb⟩ := mv3 hb1 ap aq hb
    clear hb1
    go_wp2_with fail
    with_reducible refine (Llittle_any ap).mono ?_
    rintro e v2 ⟨β, rfl, h1, hb1⟩
    obtain ⟨ap, aq, hb⟩ := mv3 hb1 ap aq hb
    clear hb1
    cases β
    · go_wp2; go_ret; exact ⟨rfl, hb⟩
    obtain ⟨ep, np, pp⟩ := h1 rfl
    clear h1 ap
    go_wp2_with fail
    with_reducible refine (Llittle_any aq).mono ?_
    rintro e v3 ⟨β, rfl, h1, hb1⟩
    obtain ⟨aq, pp, hb⟩ := mv3 hb1 aq pp hb
    clear hb1
    cases β
    · go_wp2; go_ret; exact ⟨rfl, hb⟩
    obtain ⟨eq, nq, pq⟩ := h1 rfl
    clear h1 aq
    go_wp2_with fail
    with_reducible refine (PMul_any (J := 1) (J2 := 1) (K := 51) pp.pd pq.pd (by omega) (by have := Nat.mul_le_mul np nq; omega) (by omega)).mono ?_
    rintro e v4 ⟨L1, m1, hL, A1, k1, c1, rfl, p1, hb1⟩
    obtain ⟨pp, pq, hb⟩ := mv3 hb1 pp pq hb
    clear hb1
    have e1 : Lb L1 ((co lp) * (co lq)) 13 := ⟨hL.trans (by rw [ep.out, eq.out]), Bd.mul (n := 6) (K := 6) ep.bd eq.bd⟩
    have n1 := e1.len m1 p1.pd.len
    clear hL
    go_wp2_with fail
    with_reducible refine (PDivide_any (J := 51) (J2 := 1) (K := 93) p1.pd pq.pd (by omega) (by omega) (by omega)).mono ?_
    rintro e v5 ⟨hb1, hcase⟩
    obtain ⟨pp, pq, p1, hb⟩ := mv4 hb1 pp pq p1 hb
    clear hb1
    obtain ⟨_, rfl⟩ := hcase.resolve_right (fun h => h.elim (fun h => h.1 HQ.out) (fun h => h.1 HQ.out))
    go_wp2_with fail
    with_reducible refine (PDegree_any (J := 1) pq.pd (by omega)).mono ?_
    rintro e v6 ⟨rfl, hb1⟩
    obtain ⟨pp, pq, p1, hb⟩ := mv4 hb1 pp pq p1 hb
    clear hb1
    rw [show ((nf lq).length : Int) - 1 = -1 by rw [MP.Se.nf_nil_iff.2 HQ.out]; rfl]
    go_wp2
    go_ret
    exact ⟨rfl, hb⟩
  have HQ := Lib.hid (show co lq ≠ MP.Se.c 0 from hq)
  have HD : Hid (∃ D : Nat, ((nf lq).length : Int) - 1 = D) := Lib.hid ⟨(nf lq).length - 1, by have : (nf lq).length ≠ 0 := fun h => hq (MP.Se.nf_nil_iff.1 (List.eq_nil_of_length_eq_zero h)); omega⟩
  clear hq
  go_enter Try.func8, Try.ntmps8
  go_wp2_with fail
  with_reducible refine (Lshown_any).mono ?_
  rintro e v1 ⟨rfl, hb1⟩
  obtain ⟨ap, aq, hb⟩ := mv3 hb1 ap aq hb
  clear hb1
  go_wp2_with fail
  with_reducible refine (Llittle_any ap).mono ?_
  rintro e v2 ⟨β, rfl, h1, hb1⟩
  obtain ⟨ap, aq, hb⟩ := mv3 hb1 ap aq hb
  clear hb1
  cases β
  · go_wp2; go_ret; exact ⟨rfl, hb⟩
  obtain ⟨ep, np, pp⟩ := h1 rfl
  clear h1 ap
  go_wp2_with fail
  with_reducible refine (Llittle_any aq).mono ?_
  rintro e v3 ⟨β, rfl, h1, hb1⟩
  obtain ⟨aq, pp, hb⟩ := mv3 hb1 aq pp hb
  clear hb1
  cases β
  · go_wp2; go_ret; exact ⟨rfl, hb⟩
  obtain ⟨eq, nq, pq⟩ := h1 rfl
  clear h1 aq
  go_wp2_with fail
  with_reducible refine (PMul_any (J := 1) (J2 := 1) (K := 51) pp.pd pq.pd (by omega) (by have := Nat.mul_le_mul np nq; omega) (by omega)).mono ?_
  rintro e v4 ⟨L1, m1, hL, A1, k1, c1, rfl, p1, hb1⟩
  obtain ⟨pp, pq, hb⟩ := mv3 hb1 pp pq hb
  clear hb1
  have e1 : Lb L1 ((co lp) * (co lq)) 13 := ⟨hL.trans (by rw [ep.out, eq.out]), Bd.mul (n := 6) (K := 6) ep.bd eq.bd⟩
  have n1 := e1.len m1 p1.pd.len
  clear hL
  go_wp2_with fail
  with_reducible refine (PDivide_any (J := 51) (J2 := 1) (K := 93) p1.pd pq.pd (by omega) (by omega) (by omega)).mono ?_
  rintro e v5 ⟨hb1, hcase⟩
  obtain ⟨pp, pq, p1, hb⟩ := mv4 hb1 pp pq p1 hb
  clear hb1
  obtain ⟨_, Lt, At, kt, ct, mt, hL, rfl, pt⟩ := (hcase.resolve_left (fun h => HQ.out h.1)).resolve_left (fun h => h.2.1 (by rw [e1.out]; exact MP.Se.Dv.left (MP.Se.co_fn _)))
  have et : Lb Lt (co lp) 7 := ⟨MP.Se.mul_cancel eq.fn HQ.out (MP.Se.co_fn Lt) ep.fn (hL.symm.trans (e1.out.trans (MP.Se.mul_comm _ _))), ep.bd⟩
  have nt := et.len mt pt.pd.len
  clear hL
  clear p1
  clear e1 m1
  go_wp2_with fail
  with_reducible refine (PDegree_any (J := 1) pq.pd (by omega)).mono ?_
  rintro e v6 ⟨rfl, hb1⟩
  obtain ⟨pp, pq, pt, hb⟩ := mv4 hb1 pp pq pt hb
  clear hb1
  obtain ⟨D, hD⟩ := HD.out
  rw [hD]
  have hD0 : ¬ ((D : Int) < 0) := by omega
  clear hD
  go_wp2_with fail
  with_reducible refine (PNormS_any (J := 1) pp.pd (by omega)).mono ?_
  rintro e v7 ⟨L2, m2, hL, A2, k2, c2, rfl, p2, hb1⟩
  obtain ⟨pp, pq, pt, hb⟩ := mv4 hb1 pp pq pt hb
  clear hb1
  have e2 : Lb L2 (co lp) 7 := ⟨hL.trans (by rw [ep.out]), ep.bd⟩
  have n2 := e2.len m2 p2.pd.len
  clear hL
  go_wp2_with fail
  with_reducible refine (Lsame_any pt.pn p2.pn).mono ?_
  rintro e v8 ⟨rfl, hb1⟩
  obtain ⟨pp, pq, pt, p2, hb⟩ := mv5 hb1 pp pq pt p2 hb
  clear hb1
  rw [et.same e2 mt m2 (rfl)]
  clear pt
  clear et mt
  clear p2
  clear e2 m2
  go_wp2_with fail
  with_reducible refine (PDivide_any (J := 1) (J2 := 1) (K := 25) pp.pd pq.pd (by omega) (by omega) (by omega)).mono ?_
  rintro e v9 ⟨hb1, hcase⟩
  obtain ⟨pp, pq, hb⟩ := mv3 hb1 pp pq hb
  clear hb1
  rcases hcase.resolve_left (fun h => HQ.out h.1) with ⟨_, _, rfl⟩ | ⟨_, Lu, Au, ku, cu, mu, hL, rfl, pu⟩
  · skip
    go_wp2_with fail
    with_reducible refine (PMul_any (J := 1) (J2 := 1) (K := 51) pp.pd pq.pd (by omega) (by have := Nat.mul_le_mul np nq; omega) (by omega)).mono ?_
    rintro e v10 ⟨L3, m3, hL, A3, k3, c3, rfl, p3, hb1⟩
    obtain ⟨pp, pq, hb⟩ := mv3 hb1 pp pq hb
    clear hb1
    have e3 : Lb L3 ((co lp) * (co lq)) 13 := ⟨hL.trans (by rw [ep.out, eq.out]), Bd.mul (n := 6) (K := 6) ep.bd eq.bd⟩
    have n3 := e3.len m3 p3.pd.len
    clear hL
    go_wp2_with fail
    refine al1c fun u4 hb1 x => ?_
    obtain ⟨pp, pq, p3, hb⟩ := mv4 hb1 pp pq p3 hb
    clear hb1
    with_reducible refine (Lpoly_at (n := 1) [1] x rfl (by omega) (by decide)).mono ?_
    rintro e v11 ⟨A4, c4, rfl, p4, hb1⟩
    clear x
    obtain ⟨pp, pq, p3, hb⟩ := mv4 hb1 pp pq p3 hb
    clear hb1
    have e4 : Lb [1] (co [1]) 1 := Lb.mk0 (by decide)
    have m4 : MP.Se.Nm [1] := nm_dec rfl
    have n4 : 1 ≤ 1 := by omega
    go_wp2_with fail
    with_reducible refine (PAdd_any (J := 51) (K := 65) (p3.pd.kto (by omega)) (p4.pd.kto (by omega)) (by omega) (by omega)).mono ?_
    rintro e v12 ⟨L5, m5, hL, A5, k5, c5, rfl, p5, hb1⟩
    obtain ⟨pp, pq, p3, p4, hb⟩ := mv5 hb1 pp pq p3 p4 hb
    clear hb1
    have e5 : Lb L5 (((co lp) * (co lq)) + (co [1])) 13 := ⟨hL.trans (by rw [e3.out, e4.out]), Bd.pl e3.bd e4.bd (by omega) (by omega)⟩
    have n5 := e5.len m5 p5.pd.len
    clear hL
    go_wp2_with fail
    with_reducible refine (PDivide_any (J := 65) (J2 := 1) (K := 107) p5.pd pq.pd (by omega) (by omega) (by omega)).mono ?_
    rintro e v13 ⟨hb1, hcase⟩
    obtain ⟨pp, pq, p3, p4, p5, hb⟩ := mv6 hb1 pp pq p3 p4 p5 hb
    clear hb1
    rcases hcase.resolve_left (fun h => HQ.out h.1) with ⟨_, hn, rfl⟩ | ⟨_, Lv, Av, kv, cv, mv, hL, rfl, pv⟩
    · skip
      have H1 := Lib.hid (show co lq ≠ MP.Se.c 1 from fun h => hn (by rw [h]; exact dv_by1 (MP.Se.co_fn _)))
      have H2 := Lib.hid (show co lq ≠ MP.Se.c (-1) from fun h => hn (by rw [h]; exact dv_bym (MP.Se.co_fn _)))
      clear hn
      go_wp2_with fail
      refine al1c fun u6 hb1 x => ?_
      obtain ⟨pp, pq, p3, p4, p5, hb⟩ := mv6 hb1 pp pq p3 p4 p5 hb
      clear hb1
      with_reducible refine (Lpoly_at (n := 1) [1] x rfl (by omega) (by decide)).mono ?_
      rintro e v14 ⟨A6, c6, rfl, p6, hb1⟩
      clear x
      obtain ⟨pp, pq, p3, p4, p5, hb⟩ := mv6 hb1 pp pq p3 p4 p5 hb
      clear hb1
      have e6 : Lb [1] (co [1]) 1 := Lb.mk0 (by decide)
      have m6 : MP.Se.Nm [1] := nm_dec rfl
      have n6 : 1 ≤ 1 := by omega
      go_wp2_with fail
      with_reducible refine (PSame_any (J := 1) (J2 := 1) pq.pd p6.pd (by omega) (by omega)).mono ?_
      rintro e v15 ⟨rfl, hb1⟩
      obtain ⟨pp, pq, p3, p4, p5, p6, hb⟩ := mv7 hb1 pp pq p3 p4 p5 p6 hb
      clear hb1
      rw [nf_not H1.out]
      clear p6
      clear e6 m6
      go_wp2_with fail
      refine al1c fun u7 hb1 x => ?_
      obtain ⟨pp, pq, p3, p4, p5, hb⟩ := mv6 hb1 pp pq p3 p4 p5 hb
      clear hb1
      with_reducible refine (Lpoly_at (n := 1) [-1] x rfl (by omega) (by decide)).mono ?_
      rintro e v16 ⟨A7, c7, rfl, p7, hb1⟩
      clear x
      obtain ⟨pp, pq, p3, p4, p5, hb⟩ := mv6 hb1 pp pq p3 p4 p5 hb
      clear hb1
      have e7 : Lb [-1] (co [-1]) 1 := Lb.mk0 (by decide)
      have m7 : MP.Se.Nm [-1] := nm_dec rfl
      have n7 : 1 ≤ 1 := by omega
      go_wp2_with fail
      with_reducible refine (PSame_any (J := 1) (J2 := 1) pq.pd p7.pd (by omega) (by omega)).mono ?_
      rintro e v17 ⟨rfl, hb1⟩
      obtain ⟨pp, pq, p3, p4, p5, p7, hb⟩ := mv7 hb1 pp pq p3 p4 p5 p7 hb
      clear hb1
      rw [nf_not H2.out]
      clear p7
      clear e7 m7
      go_wp2
      go_ret
      exact ⟨rfl, hb⟩
    · skip
      have hdv : MP.Se.Dv (co lq) (co lp * co lq + MP.Se.c 1) := ⟨co Lv, MP.Se.co_fn _, by rw [← hL, e5.out, co_one]⟩
      rcases dv_one eq.fn (dv_more ep.fn hdv) with h1 | h1
      · skip
        have H1 := Lib.hid h1; clear h1 hdv hL pv mv
        go_wp2_with fail
        refine al1c fun u6 hb1 x => ?_
        obtain ⟨pp, pq, p3, p4, p5, hb⟩ := mv6 hb1 pp pq p3 p4 p5 hb
        clear hb1
        with_reducible refine (Lpoly_at (n := 1) [1] x rfl (by omega) (by decide)).mono ?_
        rintro e v14 ⟨A6, c6, rfl, p6, hb1⟩
        clear x
        obtain ⟨pp, pq, p3, p4, p5, hb⟩ := mv6 hb1 pp pq p3 p4 p5 hb
        clear hb1
        have e6 : Lb [1] (co [1]) 1 := Lb.mk0 (by decide)
        have m6 : MP.Se.Nm [1] := nm_dec rfl
        have n6 : 1 ≤ 1 := by omega
        go_wp2_with fail
        with_reducible refine (PSame_any (J := 1) (J2 := 1) pq.pd p6.pd (by omega) (by omega)).mono ?_
        rintro e v15 ⟨rfl, hb1⟩
        obtain ⟨pp, pq, p3, p4, p5, p6, hb⟩ := mv7 hb1 pp pq p3 p4 p5 p6 hb
        clear hb1
        rw [nf_one H1.out]
        clear p6
        clear e6 m6
        go_wp2
        go_ret
        exact ⟨rfl, hb⟩
      · skip
        have H1 := Lib.hid h1; clear h1 hdv hL pv mv
        have H2 := Lib.hid (show co lq ≠ MP.Se.c 1 from fun h => by have := MP.Se.c_inj (H1.out.symm.trans h); omega)
        go_wp2_with fail
        refine al1c fun u6 hb1 x => ?_
        obtain ⟨pp, pq, p3, p4, p5, hb⟩ := mv6 hb1 pp pq p3 p4 p5 hb
        clear hb1
        with_reducible refine (Lpoly_at (n := 1) [1] x rfl (by omega) (by decide)).mono ?_
        rintro e v14 ⟨A6, c6, rfl, p6, hb1⟩
        clear x
        obtain ⟨pp, pq, p3, p4, p5, hb⟩ := mv6 hb1 pp pq p3 p4 p5 hb
        clear hb1
        have e6 : Lb [1] (co [1]) 1 := Lb.mk0 (by decide)
        have m6 : MP.Se.Nm [1] := nm_dec rfl
        have n6 : 1 ≤ 1 := by omega
        go_wp2_with fail
        with_reducible refine (PSame_any (J := 1) (J2 := 1) pq.pd p6.pd (by omega) (by omega)).mono ?_
        rintro e v15 ⟨rfl, hb1⟩
        obtain ⟨pp, pq, p3, p4, p5, p6, hb⟩ := mv7 hb1 pp pq p3 p4 p5 p6 hb
        clear hb1
        rw [nf_not H2.out]
        clear p6
        clear e6 m6
        go_wp2_with fail
        refine al1c fun u7 hb1 x => ?_
        obtain ⟨pp, pq, p3, p4, p5, hb⟩ := mv6 hb1 pp pq p3 p4 p5 hb
        clear hb1
        with_reducible refine (Lpoly_at (n := 1) [-1] x rfl (by omega) (by decide)).mono ?_
        rintro e v16 ⟨A7, c7, rfl, p7, hb1⟩
        clear x
        obtain ⟨pp, pq, p3, p4, p5, hb⟩ := mv6 hb1 pp pq p3 p4 p5 hb
        clear hb1
        have e7 : Lb [-1] (co [-1]) 1 := Lb.mk0 (by decide)
        have m7 : MP.Se.Nm [-1] := nm_dec rfl
        have n7 : 1 ≤ 1 := by omega
        go_wp2_with fail
        with_reducible refine (PSame_any (J := 1) (J2 := 1) pq.pd p7.pd (by omega) (by omega)).mono ?_
        rintro e v17 ⟨rfl, hb1⟩
        obtain ⟨pp, pq, p3, p4, p5, p7, hb⟩ := mv7 hb1 pp pq p3 p4 p5 p7 hb
        clear hb1
        rw [nf_one H1.out]
        clear p7
        clear e7 m7
        go_wp2
        go_ret
        exact ⟨rfl, hb⟩
  · skip
    have hu : MP.Se.Bd (co Lu) 7 := quo_bd eq.fn (MP.Se.co_fn _) HQ.out (by rw [← hL]; exact ep.bd)
    have eu : Lb Lu (co Lu) 7 := ⟨rfl, hu⟩
    have nu := eu.len mu pu.pd.len
    have HU := Lib.hid hL; clear hL hu
    go_wp2_with fail
    with_reducible refine (PMul_any (J := 25) (J2 := 1) (K := 75) pu.pd pq.pd (by omega) (by have := Nat.mul_le_mul nu nq; omega) (by omega)).mono ?_
    rintro e v10 ⟨L3, m3, hL, A3, k3, c3, rfl, p3, hb1⟩
    obtain ⟨pp, pq, pu, hb⟩ := mv4 hb1 pp pq pu hb
    clear hb1
    have e3 : Lb L3 ((co Lu) * (co lq)) 13 := ⟨hL.trans (by rw [eu.out, eq.out]), Bd.mul (n := 6) (K := 6) eu.bd eq.bd⟩
    have n3 := e3.len m3 p3.pd.len
    clear hL
    go_wp2_with fail
    with_reducible refine (PNormS_any (J := 1) pp.pd (by omega)).mono ?_
    rintro e v11 ⟨L4, m4, hL, A4, k4, c4, rfl, p4, hb1⟩
    obtain ⟨pp, pq, pu, p3, hb⟩ := mv5 hb1 pp pq pu p3 hb
    clear hb1
    have e4 : Lb L4 (co lp) 7 := ⟨hL.trans (by rw [ep.out]), ep.bd⟩
    have n4 := e4.len m4 p4.pd.len
    clear hL
    go_wp2_with fail
    with_reducible refine (Lsame_any p3.pn p4.pn).mono ?_
    rintro e v12 ⟨rfl, hb1⟩
    obtain ⟨pp, pq, pu, p3, p4, hb⟩ := mv6 hb1 pp pq pu p3 p4 hb
    clear hb1
    rw [e3.same e4 m3 m4 ((MP.Se.mul_comm _ _).trans HU.out.symm)]
    clear p3
    clear e3 m3
    clear p4
    clear e4 m4
    clear pu
    clear eu mu
    go_wp2_with fail
    with_reducible refine (PMul_any (J := 1) (J2 := 1) (K := 51) pp.pd pq.pd (by omega) (by have := Nat.mul_le_mul np nq; omega) (by omega)).mono ?_
    rintro e v13 ⟨L5, m5, hL, A5, k5, c5, rfl, p5, hb1⟩
    obtain ⟨pp, pq, hb⟩ := mv3 hb1 pp pq hb
    clear hb1
    have e5 : Lb L5 ((co lp) * (co lq)) 13 := ⟨hL.trans (by rw [ep.out, eq.out]), Bd.mul (n := 6) (K := 6) ep.bd eq.bd⟩
    have n5 := e5.len m5 p5.pd.len
    clear hL
    go_wp2_with fail
    refine al1c fun u6 hb1 x => ?_
    obtain ⟨pp, pq, p5, hb⟩ := mv4 hb1 pp pq p5 hb
    clear hb1
    with_reducible refine (Lpoly_at (n := 1) [1] x rfl (by omega) (by decide)).mono ?_
    rintro e v14 ⟨A6, c6, rfl, p6, hb1⟩
    clear x
    obtain ⟨pp, pq, p5, hb⟩ := mv4 hb1 pp pq p5 hb
    clear hb1
    have e6 : Lb [1] (co [1]) 1 := Lb.mk0 (by decide)
    have m6 : MP.Se.Nm [1] := nm_dec rfl
    have n6 : 1 ≤ 1 := by omega
    go_wp2_with fail
    with_reducible refine (PAdd_any (J := 51) (K := 65) (p5.pd.kto (by omega)) (p6.pd.kto (by omega)) (by omega) (by omega)).mono ?_
    rintro e v15 ⟨L7, m7, hL, A7, k7, c7, rfl, p7, hb1⟩
    obtain ⟨pp, pq, p5, p6, hb⟩ := mv5 hb1 pp pq p5 p6 hb
    clear hb1
    have e7 : Lb L7 (((co lp) * (co lq)) + (co [1])) 13 := ⟨hL.trans (by rw [e5.out, e6.out]), Bd.pl e5.bd e6.bd (by omega) (by omega)⟩
    have n7 := e7.len m7 p7.pd.len
    clear hL
    go_wp2_with fail
    with_reducible refine (PDivide_any (J := 65) (J2 := 1) (K := 107) p7.pd pq.pd (by omega) (by omega) (by omega)).mono ?_
    rintro e v16 ⟨hb1, hcase⟩
    obtain ⟨pp, pq, p5, p6, p7, hb⟩ := mv6 hb1 pp pq p5 p6 p7 hb
    clear hb1
    rcases hcase.resolve_left (fun h => HQ.out h.1) with ⟨_, hn, rfl⟩ | ⟨_, Lv, Av, kv, cv, mv, hL, rfl, pv⟩
    · skip
      have H1 := Lib.hid (show co lq ≠ MP.Se.c 1 from fun h => hn (by rw [h]; exact dv_by1 (MP.Se.co_fn _)))
      have H2 := Lib.hid (show co lq ≠ MP.Se.c (-1) from fun h => hn (by rw [h]; exact dv_bym (MP.Se.co_fn _)))
      clear hn
      go_wp2_with fail
      refine al1c fun u8 hb1 x => ?_
      obtain ⟨pp, pq, p5, p6, p7, hb⟩ := mv6 hb1 pp pq p5 p6 p7 hb
      clear hb1
      with_reducible refine (Lpoly_at (n := 1) [1] x rfl (by omega) (by decide)).mono ?_
      rintro e v17 ⟨A8, c8, rfl, p8, hb1⟩
      clear x
      obtain ⟨pp, pq, p5, p6, p7, hb⟩ := mv6 hb1 pp pq p5 p6 p7 hb
      clear hb1
      have e8 : Lb [1] (co [1]) 1 := Lb.mk0 (by decide)
      have m8 : MP.Se.Nm [1] := nm_dec rfl
      have n8 : 1 ≤ 1 := by omega
      go_wp2_with fail
      with_reducible refine (PSame_any (J := 1) (J2 := 1) pq.pd p8.pd (by omega) (by omega)).mono ?_
      rintro e v18 ⟨rfl, hb1⟩
      obtain ⟨pp, pq, p5, p6, p7, p8, hb⟩ := mv7 hb1 pp pq p5 p6 p7 p8 hb
      clear hb1
      rw [nf_not H1.out]
      clear p8
      clear e8 m8
      go_wp2_with fail
      refine al1c fun u9 hb1 x => ?_
      obtain ⟨pp, pq, p5, p6, p7, hb⟩ := mv6 hb1 pp pq p5 p6 p7 hb
      clear hb1
      with_reducible refine (Lpoly_at (n := 1) [-1] x rfl (by omega) (by decide)).mono ?_
      rintro e v19 ⟨A9, c9, rfl, p9, hb1⟩
      clear x
      obtain ⟨pp, pq, p5, p6, p7, hb⟩ := mv6 hb1 pp pq p5 p6 p7 hb
      clear hb1
      have e9 : Lb [-1] (co [-1]) 1 := Lb.mk0 (by decide)
      have m9 : MP.Se.Nm [-1] := nm_dec rfl
      have n9 : 1 ≤ 1 := by omega
      go_wp2_with fail
      with_reducible refine (PSame_any (J := 1) (J2 := 1) pq.pd p9.pd (by omega) (by omega)).mono ?_
      rintro e v20 ⟨rfl, hb1⟩
      obtain ⟨pp, pq, p5, p6, p7, p9, hb⟩ := mv7 hb1 pp pq p5 p6 p7 p9 hb
      clear hb1
      rw [nf_not H2.out]
      clear p9
      clear e9 m9
      go_wp2
      go_ret
      exact ⟨rfl, hb⟩
    · skip
      have hdv : MP.Se.Dv (co lq) (co lp * co lq + MP.Se.c 1) := ⟨co Lv, MP.Se.co_fn _, by rw [← hL, e7.out, co_one]⟩
      rcases dv_one eq.fn (dv_more ep.fn hdv) with h1 | h1
      · skip
        have H1 := Lib.hid h1; clear h1 hdv hL pv mv
        go_wp2_with fail
        refine al1c fun u8 hb1 x => ?_
        obtain ⟨pp, pq, p5, p6, p7, hb⟩ := mv6 hb1 pp pq p5 p6 p7 hb
        clear hb1
        with_reducible refine (Lpoly_at (n := 1) [1] x rfl (by omega) (by decide)).mono ?_
        rintro e v17 ⟨A8, c8, rfl, p8, hb1⟩
        clear x
        obtain ⟨pp, pq, p5, p6, p7, hb⟩ := mv6 hb1 pp pq p5 p6 p7 hb
        clear hb1
        have e8 : Lb [1] (co [1]) 1 := Lb.mk0 (by decide)
        have m8 : MP.Se.Nm [1] := nm_dec rfl
        have n8 : 1 ≤ 1 := by omega
        go_wp2_with fail
        with_reducible refine (PSame_any (J := 1) (J2 := 1) pq.pd p8.pd (by omega) (by omega)).mono ?_
        rintro e v18 ⟨rfl, hb1⟩
        obtain ⟨pp, pq, p5, p6, p7, p8, hb⟩ := mv7 hb1 pp pq p5 p6 p7 p8 hb
        clear hb1
        rw [nf_one H1.out]
        clear p8
        clear e8 m8
        go_wp2
        go_ret
        exact ⟨rfl, hb⟩
      · skip
        have H1 := Lib.hid h1; clear h1 hdv hL pv mv
        have H2 := Lib.hid (show co lq ≠ MP.Se.c 1 from fun h => by have := MP.Se.c_inj (H1.out.symm.trans h); omega)
        go_wp2_with fail
        refine al1c fun u8 hb1 x => ?_
        obtain ⟨pp, pq, p5, p6, p7, hb⟩ := mv6 hb1 pp pq p5 p6 p7 hb
        clear hb1
        with_reducible refine (Lpoly_at (n := 1) [1] x rfl (by omega) (by decide)).mono ?_
        rintro e v17 ⟨A8, c8, rfl, p8, hb1⟩
        clear x
        obtain ⟨pp, pq, p5, p6, p7, hb⟩ := mv6 hb1 pp pq p5 p6 p7 hb
        clear hb1
        have e8 : Lb [1] (co [1]) 1 := Lb.mk0 (by decide)
        have m8 : MP.Se.Nm [1] := nm_dec rfl
        have n8 : 1 ≤ 1 := by omega
        go_wp2_with fail
        with_reducible refine (PSame_any (J := 1) (J2 := 1) pq.pd p8.pd (by omega) (by omega)).mono ?_
        rintro e v18 ⟨rfl, hb1⟩
        obtain ⟨pp, pq, p5, p6, p7, p8, hb⟩ := mv7 hb1 pp pq p5 p6 p7 p8 hb
        clear hb1
        rw [nf_not H2.out]
        clear p8
        clear e8 m8
        go_wp2_with fail
        refine al1c fun u9 hb1 x => ?_
        obtain ⟨pp, pq, p5, p6, p7, hb⟩ := mv6 hb1 pp pq p5 p6 p7 hb
        clear hb1
        with_reducible refine (Lpoly_at (n := 1) [-1] x rfl (by omega) (by decide)).mono ?_
        rintro e v19 ⟨A9, c9, rfl, p9, hb1⟩
        clear x
        obtain ⟨pp, pq, p5, p6, p7, hb⟩ := mv6 hb1 pp pq p5 p6 p7 hb
        clear hb1
        have e9 : Lb [-1] (co [-1]) 1 := Lb.mk0 (by decide)
        have m9 : MP.Se.Nm [-1] := nm_dec rfl
        have n9 : 1 ≤ 1 := by omega
        go_wp2_with fail
        with_reducible refine (PSame_any (J := 1) (J2 := 1) pq.pd p9.pd (by omega) (by omega)).mono ?_
        rintro e v20 ⟨rfl, hb1⟩
        obtain ⟨pp, pq, p5, p6, p7, p9, hb⟩ := mv7 hb1 pp pq p5 p6 p7 p9 hb
        clear hb1
        rw [nf_one H1.out]
        clear p9
        clear e9 m9
        go_wp2
        go_ret
        exact ⟨rfl, hb⟩
end Go.Proofs.Ytaikcbckghkhmaa
