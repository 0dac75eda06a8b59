/-
  polyz: PolyzGcds.
-/
import Derived.Test.YtnidohbbimfpjaaVlaw
import Derived.Test.YtnidohbbimfpjaaVgk
namespace Go.Proofs.Ytnidohbbimfpjaa
open Go.RowKit
open MP.Se (nf co)
set_option linter.unusedVariables false
set_option maxRecDepth 100000

theorem sg_pos {X : Int} (h : 0 < X) : sgnI X = 1 := by unfold sgnI; rw [if_neg (by omega), if_neg (by omega)]
theorem sg_neg {X : Int} (h : X < 0) : sgnI X = -1 := by unfold sgnI; simp [h]
set_option maxHeartbeats 2000000 in
/-- The law. -/
theorem PolyzGcds_any {A B C : Option Addr} {kp cp kq cq kr cr : Nat} {lp lq lr : List Int} {w : World} (ap : Pa w A kp cp lp) (aq : Pa w B kq cq lq) (ar : Pa w C kr cr lr) :
    Calls Try.prog 5 #[.slice A kp cp, .slice B kq cq, .slice C kr cr] w fun e w' => e = .returned (.bool true) ∧ Below w.heap.size w w' := by
  have hb := Below.refl w.heap.size w
  have hlr := ar.1
  go_enter Try.func5, Try.ntmps5
  go_wp2_with fail
  with_reducible refine (Lshown_any).mono ?_
  rintro e v1 ⟨rfl, hb1⟩
  obtain ⟨ap, aq, ar, hb⟩ := mv4 hb1 ap aq ar hb
  clear hb1
  go_wp2_with fail
  refine (RFits_any (N := 5) (M := 1) ap (by omega) (by omega)).mono ?_
  rintro e v2 ⟨β, rfl, h1, hb1⟩
  obtain ⟨ap, aq, ar, hb⟩ := mv4 hb1 ap aq ar hb
  clear hb1
  cases β
  · go_wp2; go_ret; exact ⟨rfl, hb⟩
  obtain ⟨np, pp⟩ := h1 rfl
  have ep : Lb lp (co lp) 5 := Lb.mk0 (by have := pp.len; omega)
  replace pp := pp.pe
  clear h1 ap
  go_wp2_with fail
  refine (RFits_any (N := 5) (M := 1) aq (by omega) (by omega)).mono ?_
  rintro e v3 ⟨β, rfl, h1, hb1⟩
  obtain ⟨aq, ar, pp, hb⟩ := mv4 hb1 aq ar pp hb
  clear hb1
  cases β
  · go_wp2; go_ret; exact ⟨rfl, hb⟩
  obtain ⟨nq, pq⟩ := h1 rfl
  have eq : Lb lq (co lq) 5 := Lb.mk0 (by have := pq.len; omega)
  replace pq := pq.pe
  clear h1 aq
  go_wp2_with fail
  refine (RFits_any (N := 4) (M := 1) ar (by omega) (by omega)).mono ?_
  rintro e v4 ⟨β, rfl, h1, hb1⟩
  obtain ⟨ar, pp, pq, hb⟩ := mv4 hb1 ar pp pq hb
  clear hb1
  cases β
  · go_wp2; go_ret; exact ⟨rfl, hb⟩
  obtain ⟨nr, pr⟩ := h1 rfl
  have er : Lb lr (co lr) 4 := Lb.mk0 (by have := pr.len; omega)
  replace pr := pr.pe
  clear h1 ar
  go_wp2_with fail
  with_reducible refine (PGcdG_any (J := 1) (D := 8) (B := 16) (pp.pd.kto (by omega)) (pq.pd.kto (by omega)) (by omega) (by omega) (by omega) (by omega) (by omega) (by omega) (by omega) (by omega)).mono ?_
  rintro e v5 ⟨LD, hg, AD, kD, cD, rfl, pD, hb1⟩
  obtain ⟨pp, pq, pr, hb⟩ := mv4 hb1 pp pq pr hb
  clear hb1
  have HG := Lib.hid hg; clear hg
  have hkD := pD.pd.len
  go_wp2_with fail
  with_reducible refine (PDegree_any (J := 33) pD.pd (by omega)).mono ?_
  rintro e v6 ⟨rfl, hb1⟩
  obtain ⟨pp, pq, pr, pD, hb⟩ := mv5 hb1 pp pq pr pD hb
  clear hb1
  rw [MP.Se.nf_id HG.out.nm]
  rcases (show LD = [] ∨ ∃ D, LD.length = D + 1 from (by rcases LD with _ | ⟨a, L⟩; exact .inl rfl; exact .inr ⟨L.length, rfl⟩)) with hL | ⟨D1, hL⟩
  · skip
    have H1 := Lib.hid (HG.out.nil hL).1
    have H2 := Lib.hid (HG.out.nil hL).2
    rw [hL, show ((([] : List Int).length : Int) - 1) = -1 from rfl]
    clear hL hkD
    go_wp2_with fail
    with_reducible refine (PDegree_any (J := 1) pp.pd (by omega)).mono ?_
    rintro e v7 ⟨rfl, hb1⟩
    obtain ⟨pp, pq, pr, pD, hb⟩ := mv5 hb1 pp pq pr pD hb
    clear hb1
    rw [show ((nf lp).length : Int) - 1 = -1 by rw [MP.Se.nf_nil_iff.2 H1.out]; rfl]
    go_wp2_with fail
    with_reducible refine (PDegree_any (J := 1) pq.pd (by omega)).mono ?_
    rintro e v8 ⟨rfl, hb1⟩
    obtain ⟨pp, pq, pr, pD, hb⟩ := mv5 hb1 pp pq pr pD hb
    clear hb1
    rw [show ((nf lq).length : Int) - 1 = -1 by rw [MP.Se.nf_nil_iff.2 H2.out]; rfl]
    go_wp2
    go_ret
    exact ⟨rfl, hb⟩
  · skip
    have hL0 : LD ≠ [] := fun e => by rw [e] at hL; simp at hL
    have HL0 := Lib.hid hL0
    have hk5 : LD.length ≤ 5 := HG.out.len2 hL0 ep.bd eq.bd
    rw [hL] at hkD hk5
    have HC0 := Lib.hid (show co LD ≠ MP.Se.c 0 from fun e => hL0 (nm_zero HG.out.nm e))
    rw [hL, show (((D1 + 1 : Nat) : Int) - 1) = (D1 : Int) by omega]
    have hn0 : ¬ ((D1 : Int) < 0) := by omega
    have HL := Lib.hid hL
    clear hL hL0
    go_wp2_with fail
    with_reducible refine (PDivide_any (J := 1) (J2 := 33) (K := 211) pp.pd pD.pd (by omega) (by omega) (by omega)).mono ?_
    rintro e v7 ⟨hb1, hcase⟩
    obtain ⟨pp, pq, pr, pD, hb⟩ := mv5 hb1 pp pq pr pD hb
    clear hb1
    obtain ⟨_, Lx, Ax, kx, cx, mx, hq, rfl, px⟩ := (hcase.resolve_left (fun h => HC0.out h.1)).resolve_left (fun h => h.2.1 HG.out.gc.left)
    obtain ⟨sx, hkx⟩ := quo_all (N := 4) pp.pd.si hq HC0.out mx ep.bd (by omega)
    rw [px.pd.len] at hkx
    replace px := (px.fit sx).pe
    have Ex := Lib.hid hq
    clear hcase hq sx
    go_wp2_with fail
    with_reducible refine (PDivide_any (J := 1) (J2 := 33) (K := 211) pq.pd pD.pd (by omega) (by omega) (by omega)).mono ?_
    rintro e v8 ⟨hb1, hcase⟩
    obtain ⟨pp, pq, pr, pD, px, hb⟩ := mv6 hb1 pp pq pr pD px hb
    clear hb1
    obtain ⟨_, Ly, Ay, ky, cy, my, hq, rfl, py⟩ := (hcase.resolve_left (fun h => HC0.out h.1)).resolve_left (fun h => h.2.1 HG.out.gc.right)
    obtain ⟨sy, hky⟩ := quo_all (N := 4) pq.pd.si hq HC0.out my eq.bd (by omega)
    rw [py.pd.len] at hky
    replace py := (py.fit sy).pe
    have Ey := Lib.hid hq
    clear hcase hq sy
    have hnk : ¬ ((kD : Int) ≤ (D1 : Int)) := by omega
    obtain ⟨d5, o5, b5, A5, n5, c5, e5, _, x_e, ze⟩ := pD.pd.pe.ec (k := D1) (by omega)
    subst e5
    have hpos : sgnI (LD[D1]'(by rw [HL.out]; omega)) = 1 := by
      refine sg_pos ?_
      have := HG.out.pos HL0.out
      rwa [HL.out, Nat.add_sub_cancel, MP.Se.co_at (by rw [HL.out]; omega)] at this
    have q_e := x_e.al
    go_wp2_with fail
    with_reducible refine (RSignZ_any ze (by omega)).mono ?_
    rintro e v9 ⟨rfl, hb1⟩
    obtain ⟨x_e, pp, pq, pr, pD, px, py, ze, hb⟩ := mv9 hb1 x_e pp pq pr pD px py ze hb
    clear hb1
    replace q_e := x_e.al
    rw [hpos]
    clear x_e q_e ze hpos hnk
    go_wp2_with fail
    with_reducible refine (PGcdG_any (J := 3) (D := 8) (B := 32) (px.pd.kto (by omega)) (py.pd.kto (by omega)) (by omega) (by omega) (by omega) (by omega) (by omega) (by omega) (by omega) (by omega)).mono ?_
    rintro e v10 ⟨Lc, hg, Ac, kc, cc, rfl, pc, hb1⟩
    obtain ⟨pp, pq, pr, pD, px, py, hb⟩ := mv7 hb1 pp pq pr pD px py hb
    clear hb1
    obtain rfl : Lc = [1] := HG.out.rest HL0.out Ex.out Ey.out hg
    clear hg
    go_wp2_with fail
    refine al1c fun u1 hb1 x => ?_
    obtain ⟨pp, pq, pr, pD, px, py, pc, hb⟩ := mv8 hb1 pp pq pr pD px py pc hb
    clear hb1
    with_reducible refine (Lpoly_at (n := 1) [1] x rfl (by omega) (by decide)).mono ?_
    rintro e v11 ⟨A1, c1, rfl, p1, hb1⟩
    clear x
    obtain ⟨pp, pq, pr, pD, px, py, pc, hb⟩ := mv8 hb1 pp pq pr pD px py pc hb
    clear hb1
    have e1 : Lb [1] (co [1]) 1 := Lb.mk0 (by decide)
    have m1 : MP.Se.Nm [1] := nm_dec rfl
    have n1 : 1 ≤ 1 := by omega
    go_wp2_with fail
    with_reducible refine (Lsame_any pc.pn p1).mono ?_
    rintro e v12 ⟨rfl, hb1⟩
    obtain ⟨pp, pq, pr, pD, px, py, pc, p1, hb⟩ := mv9 hb1 pp pq pr pD px py pc p1 hb
    clear hb1
    rw [show decide (([1] : List Int) = [1]) = true from rfl]
    clear p1
    clear e1 m1
    clear px
    clear py
    clear pc
    clear Ex Ey mx my
    go_wp2_with fail
    with_reducible refine (PDegree_any (J := 1) pr.pd (by omega)).mono ?_
    rintro e v13 ⟨rfl, hb1⟩
    obtain ⟨pp, pq, pr, pD, hb⟩ := mv5 hb1 pp pq pr pD hb
    clear hb1
    rcases (show nf lr = [] ∨ ∃ D, (nf lr).length = D + 1 from (by rcases nf lr with _ | ⟨a, L⟩; exact .inl rfl; exact .inr ⟨L.length, rfl⟩)) with hR | ⟨D2, hR⟩
    · skip
      have HR := Lib.hid (MP.Se.nf_nil_iff.1 hR)
      rw [hR, show ((([] : List Int).length : Int) - 1) = -1 from rfl]
      clear hR
      have es := er
      go_wp2_with fail
      with_reducible refine (PMul_any (J := 1) (J2 := 1) (K := 22) pp.pd pr.pd (by omega) (by have := Nat.mul_le_mul np nr; omega) (by omega)).mono ?_
      rintro e v14 ⟨L2, m2, hL, A2, k2, c2, rfl, p2, hb1⟩
      obtain ⟨pp, pq, pr, pD, hb⟩ := mv5 hb1 pp pq pr pD hb
      clear hb1
      have e2 : Lb L2 ((co lp) * (co lr)) 8 := ⟨hL.trans (by rw [ep.out, er.out]), Bd.mul (n := 4) (K := 3) ep.bd er.bd⟩
      have n2 := e2.len m2 p2.pd.len
      clear hL
      go_wp2_with fail
      with_reducible refine (PMul_any (J := 1) (J2 := 1) (K := 22) pq.pd pr.pd (by omega) (by have := Nat.mul_le_mul nq nr; omega) (by omega)).mono ?_
      rintro e v15 ⟨L3, m3, hL, A3, k3, c3, rfl, p3, hb1⟩
      obtain ⟨pp, pq, pr, pD, p2, hb⟩ := mv6 hb1 pp pq pr pD p2 hb
      clear hb1
      have e3 : Lb L3 ((co lq) * (co lr)) 8 := ⟨hL.trans (by rw [eq.out, er.out]), Bd.mul (n := 4) (K := 3) eq.bd er.bd⟩
      have n3 := e3.len m3 p3.pd.len
      clear hL
      go_wp2_with fail
      with_reducible refine (PGcdG_any (J := 22) (D := 14) (B := 322) (p2.pd.kto (by omega)) (p3.pd.kto (by omega)) (by omega) (by omega) (by omega) (by omega) (by omega) (by omega) (by omega) (by omega)).mono ?_
      rintro e v16 ⟨Lg, hg, Ag, kg, cg, rfl, pg, hb1⟩
      obtain ⟨pp, pq, pr, pD, p2, p3, hb⟩ := mv7 hb1 pp pq pr pD p2 p3 hb
      clear hb1
      have HG2 := Lib.hid hg; clear hg
      have eD : Lb LD (co LD) 5 := Lb.mk0 (by rw [HL.out]; exact hk5)
      go_wp2_with fail
      with_reducible refine (PMul_any (J := 33) (J2 := 1) (K := 54) pD.pd pr.pd (by omega) (by have := Nat.mul_le_mul (show kD ≤ 5 by omega) nr; omega) (by omega)).mono ?_
      rintro e v17 ⟨L4, m4, hL, A4, k4, c4, rfl, p4, hb1⟩
      obtain ⟨pp, pq, pr, pD, p2, p3, pg, hb⟩ := mv8 hb1 pp pq pr pD p2 p3 pg hb
      clear hb1
      have e4 : Lb L4 ((co LD) * (co lr)) 8 := ⟨hL.trans (by rw [eD.out, es.out]), Bd.mul (n := 4) (K := 3) eD.bd es.bd⟩
      have n4 := e4.len m4 p4.pd.len
      clear hL
      go_wp2_with fail
      with_reducible refine (Lsame_any pg.pn p4.pn).mono ?_
      rintro e v18 ⟨rfl, hb1⟩
      obtain ⟨pp, pq, pr, pD, p2, p3, pg, p4, hb⟩ := mv9 hb1 pp pq pr pD p2 p3 pg p4 hb
      clear hb1
      rw [show decide (Lg = L4) = true from decide_eq_true (HG.out.times HG2.out e2.out e3.out m4 e4.out (.inl rfl) (MP.Se.co_fn _) (.inl HR.out))]
      go_wp2
      go_ret
      exact ⟨rfl, hb⟩
    · skip
      have hnf := MP.Se.nf_len lr
      have hD2 : D2 < kr := by omega
      rw [hR, show (((D2 + 1 : Nat) : Int) - 1) = (D2 : Int) by omega]
      have hD0 : ((D2 : Int) ≥ 0) := by omega
      have hD3 : ((D2 : Int) < (kr : Int)) := by omega
      have hdg : MP.Se.Dg (co lr) D2 := by
        have := MP.Se.nm_dg (MP.Se.nm_nf lr) (fun e => by rw [e] at hR; simp at hR)
        rwa [hR, Nat.add_sub_cancel, MP.Se.co_nf] at this
      obtain ⟨d6, o6, b6, A6, n6, c6, e6, _, x_f, zf⟩ := pr.ec hD2
      subst e6
      have hX : lr[D2]'(by omega) = (co lr) D2 := (MP.Se.co_at _).symm
      rw [hX] at zf
      have HD := Lib.hid hdg
      clear hX hR hnf hlr
      have q_f := x_f.al
      go_wp2_with fail
      with_reducible refine (RSignZ_any zf (by omega)).mono ?_
      rintro e v14 ⟨rfl, hb1⟩
      obtain ⟨x_f, pp, pq, pr, pD, zf, hb⟩ := mv7 hb1 x_f pp pq pr pD zf hb
      clear hb1
      replace q_f := x_f.al
      clear x_f q_f zf hdg
      rcases (show 0 < (co lr) D2 ∨ (co lr) D2 < 0 by have := HD.out.1; omega) with hs | hs
      · skip
        rw [sg_pos hs]
        have HS := Lib.hid hs; clear hs
        have es := er
        go_wp2_with fail
        with_reducible refine (PMul_any (J := 1) (J2 := 1) (K := 22) pp.pd pr.pd (by omega) (by have := Nat.mul_le_mul np nr; omega) (by omega)).mono ?_
        rintro e v15 ⟨L2, m2, hL, A2, k2, c2, rfl, p2, hb1⟩
        obtain ⟨pp, pq, pr, pD, hb⟩ := mv5 hb1 pp pq pr pD hb
        clear hb1
        have e2 : Lb L2 ((co lp) * (co lr)) 8 := ⟨hL.trans (by rw [ep.out, er.out]), Bd.mul (n := 4) (K := 3) ep.bd er.bd⟩
        have n2 := e2.len m2 p2.pd.len
        clear hL
        go_wp2_with fail
        with_reducible refine (PMul_any (J := 1) (J2 := 1) (K := 22) pq.pd pr.pd (by omega) (by have := Nat.mul_le_mul nq nr; omega) (by omega)).mono ?_
        rintro e v16 ⟨L3, m3, hL, A3, k3, c3, rfl, p3, hb1⟩
        obtain ⟨pp, pq, pr, pD, p2, hb⟩ := mv6 hb1 pp pq pr pD p2 hb
        clear hb1
        have e3 : Lb L3 ((co lq) * (co lr)) 8 := ⟨hL.trans (by rw [eq.out, er.out]), Bd.mul (n := 4) (K := 3) eq.bd er.bd⟩
        have n3 := e3.len m3 p3.pd.len
        clear hL
        go_wp2_with fail
        with_reducible refine (PGcdG_any (J := 22) (D := 14) (B := 322) (p2.pd.kto (by omega)) (p3.pd.kto (by omega)) (by omega) (by omega) (by omega) (by omega) (by omega) (by omega) (by omega) (by omega)).mono ?_
        rintro e v17 ⟨Lg, hg, Ag, kg, cg, rfl, pg, hb1⟩
        obtain ⟨pp, pq, pr, pD, p2, p3, hb⟩ := mv7 hb1 pp pq pr pD p2 p3 hb
        clear hb1
        have HG2 := Lib.hid hg; clear hg
        have eD : Lb LD (co LD) 5 := Lb.mk0 (by rw [HL.out]; exact hk5)
        go_wp2_with fail
        with_reducible refine (PMul_any (J := 33) (J2 := 1) (K := 54) pD.pd pr.pd (by omega) (by have := Nat.mul_le_mul (show kD ≤ 5 by omega) nr; omega) (by omega)).mono ?_
        rintro e v18 ⟨L4, m4, hL, A4, k4, c4, rfl, p4, hb1⟩
        obtain ⟨pp, pq, pr, pD, p2, p3, pg, hb⟩ := mv8 hb1 pp pq pr pD p2 p3 pg hb
        clear hb1
        have e4 : Lb L4 ((co LD) * (co lr)) 8 := ⟨hL.trans (by rw [eD.out, es.out]), Bd.mul (n := 4) (K := 3) eD.bd es.bd⟩
        have n4 := e4.len m4 p4.pd.len
        clear hL
        go_wp2_with fail
        with_reducible refine (Lsame_any pg.pn p4.pn).mono ?_
        rintro e v19 ⟨rfl, hb1⟩
        obtain ⟨pp, pq, pr, pD, p2, p3, pg, p4, hb⟩ := mv9 hb1 pp pq pr pD p2 p3 pg p4 hb
        clear hb1
        rw [show decide (Lg = L4) = true from decide_eq_true (HG.out.times HG2.out e2.out e3.out m4 e4.out (.inl rfl) (MP.Se.co_fn _) (.inr ⟨D2, HD.out, HS.out⟩))]
        go_wp2
        go_ret
        exact ⟨rfl, hb⟩
      · skip
        rw [sg_neg hs]
        have HS := Lib.hid hs; clear hs
        go_wp2_with fail
        with_reducible refine (ROf_any (-1) (by omega) (by omega)).mono ?_
        rintro e v15 ⟨A7, n7, c7, rfl, z7, hb1⟩
        obtain ⟨pp, pq, pr, pD, hb⟩ := mv5 hb1 pp pq pr pD hb
        clear hb1
        go_wp2_with fail
        with_reducible refine (PTimesS_any (J := 1) (J2 := 1) (K := 2) pr.pd z7.zr (by omega) (by omega)).mono ?_
        rintro e v16 ⟨Ls, ms, hS, As, ks, cs, rfl, ps, hb1⟩
        obtain ⟨pp, pq, pr, pD, z7, hb⟩ := mv6 hb1 pp pq pr pD z7 hb
        clear hb1
        have es : Lb Ls (-(co lr)) 4 := ⟨hS.trans (MP.Se.sm_neg _), er.bd.neg⟩
        have ns := es.len ms ps.pd.len
        clear hS z7
        go_wp2_with fail
        with_reducible refine (PMul_any (J := 1) (J2 := 1) (K := 22) pp.pd pr.pd (by omega) (by have := Nat.mul_le_mul np nr; omega) (by omega)).mono ?_
        rintro e v17 ⟨L2, m2, hL, A2, k2, c2, rfl, p2, hb1⟩
        obtain ⟨pp, pq, pr, pD, ps, hb⟩ := mv6 hb1 pp pq pr pD ps hb
        clear hb1
        have e2 : Lb L2 ((co lp) * (co lr)) 8 := ⟨hL.trans (by rw [ep.out, er.out]), Bd.mul (n := 4) (K := 3) ep.bd er.bd⟩
        have n2 := e2.len m2 p2.pd.len
        clear hL
        go_wp2_with fail
        with_reducible refine (PMul_any (J := 1) (J2 := 1) (K := 22) pq.pd pr.pd (by omega) (by have := Nat.mul_le_mul nq nr; omega) (by omega)).mono ?_
        rintro e v18 ⟨L3, m3, hL, A3, k3, c3, rfl, p3, hb1⟩
        obtain ⟨pp, pq, pr, pD, ps, p2, hb⟩ := mv7 hb1 pp pq pr pD ps p2 hb
        clear hb1
        have e3 : Lb L3 ((co lq) * (co lr)) 8 := ⟨hL.trans (by rw [eq.out, er.out]), Bd.mul (n := 4) (K := 3) eq.bd er.bd⟩
        have n3 := e3.len m3 p3.pd.len
        clear hL
        go_wp2_with fail
        with_reducible refine (PGcdG_any (J := 22) (D := 14) (B := 322) (p2.pd.kto (by omega)) (p3.pd.kto (by omega)) (by omega) (by omega) (by omega) (by omega) (by omega) (by omega) (by omega) (by omega)).mono ?_
        rintro e v19 ⟨Lg, hg, Ag, kg, cg, rfl, pg, hb1⟩
        obtain ⟨pp, pq, pr, pD, ps, p2, p3, hb⟩ := mv8 hb1 pp pq pr pD ps p2 p3 hb
        clear hb1
        have HG2 := Lib.hid hg; clear hg
        have eD : Lb LD (co LD) 5 := Lb.mk0 (by rw [HL.out]; exact hk5)
        go_wp2_with fail
        with_reducible refine (PMul_any (J := 33) (J2 := 2) (K := 55) pD.pd ps.pd (by omega) (by have := Nat.mul_le_mul (show kD ≤ 5 by omega) ns; omega) (by omega)).mono ?_
        rintro e v20 ⟨L4, m4, hL, A4, k4, c4, rfl, p4, hb1⟩
        obtain ⟨pp, pq, pr, pD, ps, p2, p3, pg, hb⟩ := mv9 hb1 pp pq pr pD ps p2 p3 pg hb
        clear hb1
        have e4 : Lb L4 ((co LD) * (-(co lr))) 8 := ⟨hL.trans (by rw [eD.out, es.out]), Bd.mul (n := 4) (K := 3) eD.bd es.bd⟩
        have n4 := e4.len m4 p4.pd.len
        clear hL
        go_wp2_with fail
        with_reducible refine (Lsame_any pg.pn p4.pn).mono ?_
        rintro e v21 ⟨rfl, hb1⟩
        obtain ⟨pp, pq, pr, pD, ps, p2, p3, pg, p4⟩ := mv9 hb1 pp pq pr pD ps p2 p3 pg p4
        replace hb := Mv.mv hb hb1
        clear hb1
        rw [show decide (Lg = L4) = true from decide_eq_true (HG.out.times HG2.out e2.out e3.out m4 e4.out (.inr rfl) (MP.Se.co_fn _) (.inr ⟨D2, ⟨by rw [MP.Se.neg_at]; have := HD.out.1; omega, HD.out.2.neg⟩, by rw [MP.Se.neg_at]; have := HS.out; omega⟩))]
        go_wp2
        go_ret
        exact ⟨rfl, hb⟩
end Go.Proofs.Ytnidohbbimfpjaa
