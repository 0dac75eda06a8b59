/-
  polyz: PolyzRests.
-/
import Derived.Test.YtaikcbckghkhmaaVlaw
import Derived.Test.YtaikcbckghkhmaaVres
namespace Go.Proofs.Ytaikcbckghkhmaa
open Go.RowKit
open MP.Se (nf co)
set_option linter.unusedVariables false
set_option maxRecDepth 100000

/-- What the law's loop keeps. -/
def RsL (w : World) (N0 : Nat) (A : Option Addr) (kp cp : Nat) (lp : List Int) (B : Option Addr) (kq cq : Nat) (lq : List Int) (At : Option Addr) (kt ct : Nat) (Lt : List Int) (Ar : Option Addr) (kr cr : Nat) (Lr : List Int) (C : Int) (D i : Nat) (s : Value) (wr : World) : Prop :=
  Pe wr N0 A kp cp lp 1 ∧ Pe wr N0 B kq cq lq 1 ∧ Po wr 0 At kt ct Lt 23 ∧ Po wr 0 Ar kr cr Lr 15 ∧ (∃ A4 k4 c4 L, s = .slice A4 k4 c4 ∧ Po wr 0 A4 k4 c4 L (1 + (i - D)) ∧ MP.Se.Nm L ∧ co L = MP.Se.sm (C ^ (i - D)) (co lp)) ∧ Below w.heap.size w wr
theorem quo_bd {q t : MP.Se} {N : Nat} (hq : MP.Se.Fn q) (ht : MP.Se.Fn t) (h0 : q ≠ MP.Se.c 0) (h : MP.Se.Bd (q * t) N) : MP.Se.Bd t N := by
  by_cases h1 : t = MP.Se.c 0
  · rw [h1]; exact MP.Se.Bd.c0 _
  obtain ⟨m, hm⟩ := hq.dg h0
  obtain ⟨k, hk⟩ := ht.dg h1
  have hmk := hm.mul hk
  by_cases hN : N ≤ m + k
  · exact absurd (h _ hN) hmk.1
  · exact hk.2.le (by omega)
theorem add_bd {s t r : MP.Se} {N : Nat} (e : s = t + r) (hs : MP.Se.Bd s N) (hr : MP.Se.Bd r N) : MP.Se.Bd t N := fun i hi => by
  have := congrArg (fun p => p i) e
  simp only [MP.Se.add_at, hs i hi, hr i hi] at this
  omega
set_option maxHeartbeats 2000000 in
/-- The law. -/
theorem PolyzRests_any {A B : Option Addr} {kp cp kq cq : Nat} {lp lq : List Int} {w : World} (ap : Pa w A kp cp lp) (aq : Pa w B kq cq lq) :
    Calls Try.prog 9 #[.slice A kp cp, .slice B kq cq] w fun e w' => e = .returned (.bool true) ∧ Below w.heap.size w w' := by
  have hb := Below.refl w.heap.size w
  have hlp := ap.1; have hlq := aq.1
  have hnp := MP.Se.nf_len lp; have hnq := MP.Se.nf_len lq
  obtain ⟨ML, hML⟩ : ∃ m, (nf lp).length = m := ⟨_, rfl⟩
  have hMk : ML ≤ kp := by omega
  by_cases hq : co lq = MP.Se.c 0
  · skip
    have HQ := Lib.hid hq
    have H1 : Hid ((nf lq).length - 1 = 0) := Lib.hid (by rw [MP.Se.nf_nil_iff.2 hq]; rfl)
    have H2 : Hid ((nf lp).length - 0 = ML) := Lib.hid (by omega)
    clear hq hML hnp hnq hlp hlq
    go_enter Try.func9, Try.ntmps9
    go_wp2_with fail
    with_reducible refine (Lshown_any).mono ?_
    rintro e v1 ⟨rfl, hb1⟩
    obtain ⟨ap, aq, hb⟩ := mv3 hb1 ap aq hb
    clear hb1
    go_wp2_with fail
    with_reducible refine (Llittle_any ap).mono ?_
    rintro e v2 ⟨β, rfl, h1, hb1⟩
    obtain ⟨ap, aq, hb⟩ := mv3 hb1 ap aq hb
    clear hb1
    cases β
    · go_wp2; go_ret; exact ⟨rfl, hb⟩
    obtain ⟨ep, np, pp⟩ := h1 rfl
    clear h1 ap
    go_wp2_with fail
    with_reducible refine (Llittle_any aq).mono ?_
    rintro e v3 ⟨β, rfl, h1, hb1⟩
    obtain ⟨aq, pp, hb⟩ := mv3 hb1 aq pp hb
    clear hb1
    cases β
    · go_wp2; go_ret; exact ⟨rfl, hb⟩
    obtain ⟨eq, nq, pq⟩ := h1 rfl
    clear h1 aq
    go_wp2_with fail
    with_reducible refine (PRest_any (J := 1) (J2 := 1) (d := 0) (T := ML) (K := 15) (K2 := 23) pp.pd pq.pd (by omega) H1.out H2.out (by omega) (by omega) (by omega) (by omega)).mono ?_
    rintro e v4 ⟨hb1, hcase⟩
    obtain ⟨pp, pq, hb⟩ := mv3 hb1 pp pq hb
    clear hb1
    obtain ⟨_, rfl⟩ := hcase.resolve_right (fun h => h.1 HQ.out)
    go_wp2_with fail
    with_reducible refine (PDegree_any (J := 1) pq.pd (by omega)).mono ?_
    rintro e v5 ⟨rfl, hb1⟩
    obtain ⟨pp, pq, hb⟩ := mv3 hb1 pp pq hb
    clear hb1
    rw [show ((nf lq).length : Int) - 1 = -1 by rw [MP.Se.nf_nil_iff.2 HQ.out]; rfl]
    go_wp2
    go_ret
    exact ⟨rfl, hb⟩
  have HQ := Lib.hid (show co lq ≠ MP.Se.c 0 from hq)
  obtain ⟨D, hD⟩ : ∃ D, (nf lq).length = D + 1 := ⟨(nf lq).length - 1, by have : (nf lq).length ≠ 0 := fun h => hq (MP.Se.nf_nil_iff.1 (List.eq_nil_of_length_eq_zero h)); omega⟩
  obtain ⟨T, hT⟩ : ∃ T, ML - D = T := ⟨_, rfl⟩
  have hDk : D < kq := by omega
  have hTM : T ≤ ML := by omega
  have HT := Lib.hid hT; have HM := Lib.hid hML; have HD := Lib.hid hD
  have H1 : Hid ((nf lq).length - 1 = D) := Lib.hid (by omega)
  have H2 : Hid ((nf lp).length - D = T) := Lib.hid (by omega)
  have H0 : Hid (D < lq.length) := Lib.hid (by omega)
  clear hq hD hT hML hnp hnq hlp hlq
  go_enter Try.func9, Try.ntmps9
  go_wp2_with fail
  with_reducible refine (Lshown_any).mono ?_
  rintro e v1 ⟨rfl, hb1⟩
  obtain ⟨ap, aq, hb⟩ := mv3 hb1 ap aq hb
  clear hb1
  go_wp2_with fail
  with_reducible refine (Llittle_any ap).mono ?_
  rintro e v2 ⟨β, rfl, h1, hb1⟩
  obtain ⟨ap, aq, hb⟩ := mv3 hb1 ap aq hb
  clear hb1
  cases β
  · go_wp2; go_ret; exact ⟨rfl, hb⟩
  obtain ⟨ep, np, pp⟩ := h1 rfl
  clear h1 ap
  go_wp2_with fail
  with_reducible refine (Llittle_any aq).mono ?_
  rintro e v3 ⟨β, rfl, h1, hb1⟩
  obtain ⟨aq, pp, hb⟩ := mv3 hb1 aq pp hb
  clear hb1
  cases β
  · go_wp2; go_ret; exact ⟨rfl, hb⟩
  obtain ⟨eq, nq, pq⟩ := h1 rfl
  clear h1 aq
  go_wp2_with fail
  with_reducible refine (PRest_any (J := 1) (J2 := 1) (d := D) (T := T) (K := 15) (K2 := 23) pp.pd pq.pd (by omega) H1.out H2.out (by omega) (by omega) (by omega) (by omega)).mono ?_
  rintro e v4 ⟨hb1, hcase⟩
  obtain ⟨pp, pq, hb⟩ := mv3 hb1 pp pq hb
  clear hb1
  obtain ⟨_, Lt, At, kt, ct, Lr, Ar, kr, cr, mt, mr, hL, hbd, rfl, pt, pr⟩ := hcase.resolve_left (fun h => HQ.out h.1)
  have HL := Lib.hid hL; have HR := Lib.hid hbd
  clear hL hbd
  go_wp2_with fail
  with_reducible refine (PDegree_any (J := 1) pq.pd (by omega)).mono ?_
  rintro e v5 ⟨rfl, hb1⟩
  obtain ⟨pp, pq, pt, pr, hb⟩ := mv5 hb1 pp pq pt pr hb
  clear hb1
  rw [show ((nf lq).length : Int) - 1 = (D : Int) by rw [HD.out]; omega]
  have hD0 : ¬ ((D : Int) < 0) := by omega
  go_wp2_with fail
  with_reducible refine (PNormS_any (J := 1) pp.pd (by omega)).mono ?_
  rintro e v6 ⟨L1, m1, hL, A1, k1, c1, rfl, p1, hb1⟩
  obtain ⟨pp, pq, pt, pr, hb⟩ := mv5 hb1 pp pq pt pr hb
  clear hb1
  have e1 : Lb L1 (co lp) 7 := ⟨hL.trans (by rw [ep.out]), ep.bd⟩
  have n1 := e1.len m1 p1.pd.len
  clear hL
  have hr0 : RsL w v6.heap.size A kp cp lp B kq cq lq At kt ct Lt Ar kr cr Lr ((co lq) D) D D (.slice A1 k1 c1) v6 := ⟨pp.pd.pe, pq.pd.pe, pt.more (Nat.zero_le _), pr.more (Nat.zero_le _), ⟨_, _, _, L1, rfl, by rw [Nat.sub_self]; exact p1.more (Nat.zero_le _), m1, by rw [Nat.sub_self, Int.pow_zero, MP.Se.sm_one]; exact e1.out⟩, hb⟩
  clear pp pq pt pr hb p1 m1 e1 n1
  go_wp2_with fail
  go_loopw [10, 11] (fun sv kv wr => ∃ i : Nat, D ≤ i ∧ i ≤ D + T ∧ kv = .int .i64 (i : Int) ∧ RsL w v6.heap.size A kp cp lp B kq cq lq At kt ct Lt Ar kr cr Lr ((co lq) D) D i sv wr) (fun _ kv _ => D + T - (intOf kv).toNat)
  case atStart => exact ⟨D, by omega, by omega, rfl, hr0⟩
  case round =>
    clear hr0
    obtain ⟨i, hi0, hi, rfl, pp, pq, pt, pr, ⟨A4, k4, c4, L4, rfl, p4, m4, e4⟩, hb⟩ := hrel
    have E4 := Lib.hid e4; clear e4
    go_wp2_with fail
    with_reducible refine (PDegree_any (J := 1) pp.pd (by omega)).mono ?_
    rintro e v7 ⟨rfl, hb1⟩
    obtain ⟨pp, pq, pt, pr, p4, hb⟩ := mv6 hb1 pp pq pt pr p4 hb
    clear hb1
    rw [HM.out]
    rcases (show D + T = i ∨ i < D + T by omega) with hk | hk
    · skip
      have hle : ¬ ((i : Int) ≤ (ML : Int) - 1) := by have := HT.out; omega
      have hiT : i - D = T := by omega
      rw [hiT] at p4
      have e4 := E4.out; rw [hiT] at e4
      clear hiT E4 hk
      have hD7 : D ≤ 6 := by omega
      have er : Lb Lr (co Lr) 7 := ⟨rfl, HR.out.le (by omega)⟩
      have et : Lb Lt (co Lt) 7 := ⟨rfl, quo_bd eq.fn (MP.Se.co_fn _) HQ.out (add_bd HL.out ep.bd.sm er.bd)⟩
      have nr := er.len mr pr.pd.len; have nt := et.len mt pt.pd.len
      have el : Lb L4 (MP.Se.sm ((co lq) D ^ T) (co lp)) 7 := ⟨e4, ep.bd.sm⟩
      clear e4
      have HRL : Hid (((nf Lr).length : Int) - 1 < D) := Lib.hid (by have := MP.Se.nm_len (MP.Se.nm_nf Lr) (by rw [MP.Se.co_nf]; exact HR.out); omega)
      go_wp2_with fail
      with_reducible refine (PDegree_any (J := 15) pr.pd (by omega)).mono ?_
      rintro e v8 ⟨rfl, hb1⟩
      obtain ⟨pp, pq, pt, pr, p4, hb⟩ := mv6 hb1 pp pq pt pr p4 hb
      clear hb1
      obtain ⟨R, hR⟩ : ∃ R, ((nf Lr).length : Int) - 1 = R := ⟨_, rfl⟩
      have hR2 := HRL.out
      rw [hR] at hR2 ⊢
      clear hR
      go_wp2_with fail
      with_reducible refine (PMul_any (J := 1) (J2 := 23) (K := 73) pq.pd pt.pd (by omega) (by have := Nat.mul_le_mul nq nt; omega) (by omega)).mono ?_
      rintro e v9 ⟨L2, m2, hL, A2, k2, c2, rfl, p2, hb1⟩
      obtain ⟨pp, pq, pt, pr, p4, hb⟩ := mv6 hb1 pp pq pt pr p4 hb
      clear hb1
      have e2 : Lb L2 ((co lq) * (co Lt)) 13 := ⟨hL.trans (by rw [eq.out, et.out]), Bd.mul (n := 6) (K := 6) eq.bd et.bd⟩
      have n2 := e2.len m2 p2.pd.len
      clear hL
      go_wp2_with fail
      with_reducible refine (PAdd_any (J := 73) (K := 93) (p2.pd.kto (by omega)) (pr.pd.kto (by omega)) (by omega) (by omega)).mono ?_
      rintro e v10 ⟨L3, m3, hL, A3, k3, c3, rfl, p3, hb1⟩
      obtain ⟨pp, pq, pt, pr, p4, p2, hb⟩ := mv7 hb1 pp pq pt pr p4 p2 hb
      clear hb1
      have e3 : Lb L3 (((co lq) * (co Lt)) + (co Lr)) 13 := ⟨hL.trans (by rw [e2.out, er.out]), Bd.pl e2.bd er.bd (by omega) (by omega)⟩
      have n3 := e3.len m3 p3.pd.len
      clear hL
      go_wp2_with fail
      with_reducible refine (Lsame_any p4.pn p3.pn).mono ?_
      rintro e v11 ⟨rfl, hb1⟩
      obtain ⟨pp, pq, pt, pr, p4, p2, p3, hb⟩ := mv8 hb1 pp pq pt pr p4 p2 p3 hb
      clear hb1
      rw [el.same e3 m4 m3 (HL.out)]
      go_wp2
      go_ret
      exact ⟨rfl, hb⟩
    · skip
      have hle : (i : Int) ≤ (ML : Int) - 1 := by have := HT.out; omega
      obtain ⟨d5, o5, b5, A5, n5, c5, e5, _, x_e, ze⟩ := pq.ec hDk
      subst e5
      rw [← MP.Se.co_at H0.out] at ze
      have q_e := x_e.al
      go_wp2_with fail
      with_reducible refine (PTimesS_any (K := 1 + (i - D) + 1) p4.pd ze (by omega) (by omega)).mono ?_
      rintro e v8 ⟨L6, m6, hL6, A6, k6, c6, rfl, p6, hb1⟩
      obtain ⟨x_e, pp, pq, pt, pr, p4, ze, hb⟩ := mv8 hb1 x_e pp pq pt pr p4 ze hb
      clear hb1
      replace q_e := x_e.al
      have e6 : co L6 = MP.Se.sm ((co lq) D ^ (i + 1 - D)) (co lp) := by rw [hL6, E4.out, MP.Se.sm_sm, Nat.succ_sub hi0, Int.pow_succ, Int.mul_comm]
      have E6 := Lib.hid e6; clear e6 hL6
      replace p6 := p6.kto (show 1 + (i - D) + 1 ≤ 1 + (i + 1 - D) by omega)
      clear x_e q_e ze
      go_wp2
      exact ⟨⟨i + 1, by omega, by omega, by go_num, pp, pq, pt, pr, ⟨A6, k6, c6, L6, rfl, p6.more (Nat.zero_le _), m6, E6.out⟩, hb⟩, by simp [intOf]; omega⟩
end Go.Proofs.Ytaikcbckghkhmaa
