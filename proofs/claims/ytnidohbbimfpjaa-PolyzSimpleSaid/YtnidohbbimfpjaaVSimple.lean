/-
  polyz: PolyzSimple.
-/
import Derived.Test.YtnidohbbimfpjaaVlaw
import Derived.Test.YtnidohbbimfpjaaVgk
namespace Go.Proofs.Ytnidohbbimfpjaa
open Go.RowKit
open MP.Se (nf co)
set_option linter.unusedVariables false
set_option maxRecDepth 100000

/-- What the law's loop keeps. -/
def SiL (w : World) (N0 : Nat) (Aw : Option Addr) (kw cw : Nat) (Lw : List Int) (As : Option Addr) (ks cs : Nat) (Ls : List Int) (i : Nat) (s : Value) (wr : World) : Prop :=
  Pe wr N0 Aw kw cw Lw 48 ∧ Pe wr N0 As ks cs Ls 50 ∧ (∃ N4 A4 k4 c4 L, s = .slice A4 k4 c4 ∧ Pe wr N4 A4 k4 c4 L (1 + i * 960) ∧ MP.Se.Nm L ∧ co L = MP.Se.pw (co Ls) i) ∧ Below w.heap.size w wr
theorem pw_bd {s : MP.Se} {d : Nat} (h : MP.Se.Bd s (d + 1)) : ∀ i, MP.Se.Bd (MP.Se.pw s i) (d * i + 1)
  | 0 => MP.Se.Bd.c 1
  | i + 1 => by
    have := (MP.Se.mul_bd h (pw_bd h i)).1
    rw [MP.Se.pw, Nat.mul_succ]
    exact this.le (by omega)
theorem prim_id {l : List Int} (h0 : nf l ≠ []) : primL (primL l) = primL l := by
  have hp := MS.primL_pr h0
  have hP0 : nf (primL l) ≠ [] := by
    rw [MP.Se.nf_id hp.nm]; intro e; have := hp.len; rw [e] at this; exact h0 (List.eq_nil_of_length_eq_zero this.symm)
  have hp2 := MS.primL_pr hP0
  have h1 : (pdL (primL l)).natAbs = 1 := by
    rcases Nat.lt_or_ge (pdL (primL l)).natAbs 2 with h | h
    · have := hp2.ne; omega
    · obtain ⟨q, hq, hd⟩ := MP.Se.has_prime h
      exact absurd (MP.Se.Ad.trans (Int.dvd_natAbs.1 hd) (by have := MP.Se.Ad.of_sm (a := pdL (primL l)) (p := co (primL (primL l))); rwa [← hp2.eq] at this)) (hp.pm q hq)
  have hle : (primL (primL l)).length = (primL l).length := by rw [hp2.len, MP.Se.nf_id hp.nm]
  have h2 := hp.pos; have h3 := hp2.pos
  rw [hle] at h3
  have h4 := congrArg (fun f => f ((primL l).length - 1)) hp2.eq
  simp only [MP.Se.sm_at] at h4
  have h5 : pdL (primL l) = 1 := by
    rcases (show pdL (primL l) = 1 ∨ pdL (primL l) = -1 by omega) with h | h
    · exact h
    · rw [h] at h4; omega
  have h6 := hp2.eq
  rw [h5, MP.Se.sm_one] at h6
  exact MP.Se.nm_ext hp2.nm hp.nm h6.symm
theorem PSimpleZ_any {A : Option Addr} {n c J : Nat} {l : List Int} {w : World} (h : Pd w w.heap.size A n c l J) (hJ : J ≤ 800) (hn : n ≤ 100) (h0 : nf l = []) :
    Calls Try.prog 28 #[.slice A n c] w fun e w' => e = .returned (.slice none 0 0) ∧ Below w.heap.size w w' := by
  have e1 := (MS.nf_nil_all h0).1
  have hmul : (n + 1) * (2 * 900 + 3) ≤ 101 * 1803 := Nat.mul_le_mul (by omega) (Nat.le_refl _)
  refine (PSimple_any (P := []) (D := []) (G := []) (B := 900) (N := 1) (K := 200000) h hJ hn (by omega) (by omega) (by simp) e1 rfl (by unfold PgL; rw [if_neg (by decide)]; exact .inr (.inl ⟨by decide, by decide⟩)) (by omega) (by omega)).mono ?_
  rintro e w' ⟨hb, A', n', c', rfl, hcase⟩
  have hz : MP.Se.sm ((Nat.gcd (ctL []).natAbs (ctL []).natAbs : Nat) : Int) (co []) = MP.Se.c 0 := by rw [MP.Se.co_nil, MP.Se.c_sm, Int.mul_zero]
  rcases hcase _ rfl with ⟨_, rfl, rfl, rfl⟩ | ⟨h7, _⟩ | ⟨h7, _⟩
  · exact ⟨rfl, hb⟩
  · exact absurd hz h7
  · exact absurd hz h7
set_option maxHeartbeats 2000000 in
/-- The law. -/
theorem PolyzSimple_any {A B : Option Addr} {kp cp kq cq : Nat} {lp lq : List Int} {w : World} (ap : Pa w A kp cp lp) (aq : Pa w B kq cq lq) :
    Calls Try.prog 6 #[.slice A kp cp, .slice B kq cq] w fun e w' => e = .returned (.bool true) ∧ Below w.heap.size w w' := by
  have hb := Below.refl w.heap.size w
  go_enter Try.func6, Try.ntmps6
  go_wp2_with fail
  with_reducible refine (Lshown_any).mono ?_
  rintro e v1 ⟨rfl, hb1⟩
  obtain ⟨ap, aq, hb⟩ := mv3 hb1 ap aq hb
  clear hb1
  go_wp2_with fail
  refine (RFits_any (N := 4) (M := 1) ap (by omega) (by omega)).mono ?_
  rintro e v2 ⟨β, rfl, h1, hb1⟩
  obtain ⟨ap, aq, hb⟩ := mv3 hb1 ap aq hb
  clear hb1
  cases β
  · go_wp2; go_ret; exact ⟨rfl, hb⟩
  obtain ⟨np, pp⟩ := h1 rfl
  have ep : Lb lp (co lp) 4 := Lb.mk0 (by have := pp.len; omega)
  replace pp := pp.pe
  clear h1 ap
  go_wp2_with fail
  refine (RFits_any (N := 4) (M := 1) aq (by omega) (by omega)).mono ?_
  rintro e v3 ⟨β, rfl, h1, hb1⟩
  obtain ⟨aq, pp, hb⟩ := mv3 hb1 aq pp hb
  clear hb1
  cases β
  · go_wp2; go_ret; exact ⟨rfl, hb⟩
  obtain ⟨nq, pq⟩ := h1 rfl
  have eq : Lb lq (co lq) 4 := Lb.mk0 (by have := pq.len; omega)
  replace pq := pq.pe
  clear h1 aq
  go_wp2_with fail
  with_reducible refine (PMul_any (J := 1) (J2 := 1) (K := 18) pp.pd pp.pd (by omega) (by have := Nat.mul_le_mul np np; omega) (by omega)).mono ?_
  rintro e v4 ⟨L1, m1, hL, A1, k1, c1, rfl, p1, hb1⟩
  obtain ⟨pp, pq, hb⟩ := mv3 hb1 pp pq hb
  clear hb1
  have e1 : Lb L1 ((co lp) * (co lp)) 7 := ⟨hL.trans (by rw [ep.out]), Bd.mul (n := 3) (K := 3) ep.bd ep.bd⟩
  have n1 := e1.len m1 p1.pd.len
  clear hL
  go_wp2_with fail
  with_reducible refine (PMul_any (J := 18) (J2 := 1) (K := 47) p1.pd pq.pd (by omega) (by have := Nat.mul_le_mul n1 nq; omega) (by omega)).mono ?_
  rintro e v5 ⟨L2, m2, hL, A2, k2, c2, rfl, p2, hb1⟩
  obtain ⟨pp, pq, p1, hb⟩ := mv4 hb1 pp pq p1 hb
  clear hb1
  have e2 : Lb L2 (((co lp) * (co lp)) * (co lq)) 10 := ⟨hL.trans (by rw [e1.out, eq.out]), Bd.mul (n := 6) (K := 3) e1.bd eq.bd⟩
  have n2 := e2.len m2 p2.pd.len
  clear hL
  go_wp2_with fail
  with_reducible refine (PPrimitive_any (J := 47) p2.pd (by omega)).mono ?_
  rintro e v6 ⟨Aw, kw, cw, rfl, pw, hb1⟩
  obtain ⟨pp, pq, p1, p2, hb⟩ := mv5 hb1 pp pq p1 p2 hb
  clear hb1
  have hkw := pw.pd.len
  have nw : (primL L2).length ≤ 10 := Nat.le_trans (by rw [primL]; exact Nat.le_trans (MP.Se.nf_len _) (by rw [List.length_map]; exact MP.Se.nf_len _)) (by rw [p2.pd.len]; exact n2)
  have HW : Hid (nf L2 ≠ [] → primL (primL L2) = primL L2 ∧ MP.Se.Nm (primL L2) ∧ MP.Se.Pm (co (primL L2)) ∧ primL L2 ≠ []) := Lib.hid fun h => ⟨prim_id h, (MS.primL_pr h).nm, (MS.primL_pr h).pm, fun e => by have := (MS.primL_pr h).len; rw [e] at this; exact h (List.eq_nil_of_length_eq_zero this.symm)⟩
  have HZ : Hid (nf L2 = [] → primL L2 = []) := Lib.hid fun h => (MS.nf_nil_all h).1
  clear p1
  clear e1 m1
  by_cases hy : nf L2 = []
  · skip
    have e0 := HZ.out hy
    rw [e0] at pw hkw
    obtain rfl : kw = 0 := by simpa using hkw.symm
    clear e0 hkw HW HZ nw
    go_wp2_with fail
    with_reducible refine (PSimpleZ_any (J := 48) (pw.pd.kto (by omega)) (by omega) (by omega) rfl).mono ?_
    rintro e v7 ⟨rfl, hb1⟩
    obtain ⟨pp, pq, p2, pw, hb⟩ := mv5 hb1 pp pq p2 pw hb
    clear hb1
    go_wp2
    go_ret
    exact ⟨rfl, hb⟩
  · skip
    obtain ⟨i1, i2, i3, i4⟩ := HW.out hy
    obtain ⟨Lw, hLw⟩ : ∃ L, primL L2 = L := ⟨_, rfl⟩
    rw [hLw] at i1 i2 i3 i4 pw nw hkw
    clear hy HW HZ hLw
    clear p2
    clear e2 m2
    have hkw0 : 0 < kw := by rw [← hkw]; exact List.length_pos_iff.2 i4
    have hkw10 : kw ≤ 10 := by omega
    have hw0 : nf Lw ≠ [] := by rw [MP.Se.nf_id i2]; exact i4
    have HW0 := Lib.hid hw0
    replace pw := (pw.kto (show 48 ≤ 48 by omega)).pd.pe
    have H1 := Lib.hid i1; have H2 := Lib.hid i2; have H3 := Lib.hid i3; have H4 := Lib.hid i4; have HKW := Lib.hid hkw
    clear i1 i2 i3 i4 hw0 nw
    go_wp2_with fail
    with_reducible refine (PSimpleG_any (J := 48) (D := 17) (B := 850) (K := 19583) pw.pd (by omega) (by omega) (by omega) (by omega) (by omega) (by omega) (by omega) (by omega) (by omega) HW0.out).mono ?_
    rintro e v7 ⟨Ls, hs, As, ks, cs, rfl, ps, hb1⟩
    obtain ⟨pp, pq, pw, hb⟩ := mv4 hb1 pp pq pw hb
    clear hb1
    obtain ⟨ms, G, hG, he⟩ := hs
    rw [H1.out] at hG he
    have HG0 := Lib.hid (show co G ≠ MP.Se.c 0 from fun e => H4.out (nm_zero H2.out (by rw [he, e, MP.Se.zero_mul])))
    have HS0 := Lib.hid (show co Ls ≠ MP.Se.c 0 from fun e => H4.out (nm_zero H2.out (by rw [he, e, MP.Se.mul_zero])))
    obtain ⟨s1, s2⟩ := quo_all (N := 9) pw.pd.si he HG0.out ms ((MP.Se.co_bd Lw).le (by rw [HKW.out]; exact hkw10)) (by omega)
    rw [ps.pd.len] at s2
    replace ps := (ps.fit s1).pe
    have HE := Lib.hid he
    have hg := hG.gc
    rw [dr_list] at hg
    have HGC := Lib.hid hg
    have MSS := Lib.hid ms
    clear he hG hg s1 ms
    have hne : ((kw : Int) == 0) = false := by simp; omega
    go_wp2_with fail
    with_reducible refine (PDivide_any (J := 48) (J2 := 50) (K := 620) pw.pd ps.pd (by omega) (by omega) (by omega)).mono ?_
    rintro e v8 ⟨hb1, hcase⟩
    obtain ⟨pp, pq, pw, ps, hb⟩ := mv5 hb1 pp pq pw ps hb
    clear hb1
    obtain ⟨_, Lz, Az, kz, cz, mz, hq, rfl, pz⟩ := (hcase.resolve_left (fun h => HS0.out h.1)).resolve_left (fun h => h.2.1 ⟨co G, MP.Se.co_fn G, HE.out.trans (MP.Se.mul_comm _ _)⟩)
    clear hcase hq pz mz
    go_wp2_with fail
    refine al1c fun u3 hb1 x => ?_
    obtain ⟨pp, pq, pw, ps, hb⟩ := mv5 hb1 pp pq pw ps hb
    clear hb1
    with_reducible refine (Lpoly_at (n := 1) [1] x rfl (by omega) (by decide)).mono ?_
    rintro e v9 ⟨A3, c3, rfl, p3, hb1⟩
    clear x
    obtain ⟨pp, pq, pw, ps, hb⟩ := mv5 hb1 pp pq pw ps hb
    clear hb1
    have e3 : Lb [1] (co [1]) 1 := Lb.mk0 (by decide)
    have m3 : MP.Se.Nm [1] := nm_dec rfl
    have n3 : 1 ≤ 1 := by omega
    have hr0 : SiL w v9.heap.size Aw kw cw Lw As ks cs Ls 0 (.slice A3 1 c3) v9 := ⟨pw.pd.pe, ps.pd.pe, ⟨_, _, _, _, [1], rfl, p3.pd.pe, m3, by rw [MP.Se.co_cons, MP.Se.co_nil, MP.Se.sh_zero, MP.Se.add_zero]; rfl⟩, hb⟩
    clear pw ps hb p3 m3 e3 n3
    go_wp2_with fail
    go_loopw [10, 11] (fun sv kv wr => ∃ i : Nat, i ≤ kw ∧ kv = .int .i64 (i : Int) ∧ SiL w v9.heap.size Aw kw cw Lw As ks cs Ls i sv wr) (fun _ kv _ => kw - (intOf kv).toNat)
    case atStart => exact ⟨0, by omega, rfl, hr0⟩
    case round =>
      clear hr0
      obtain ⟨i, hi, rfl, pw, ps, ⟨N4, A4, k4, c4, L4, rfl, p4, m4, e4⟩, hb⟩ := hrel
      have hk4 : k4 ≤ 9 * i + 1 := by rw [← p4.pd.len]; exact MP.Se.nm_len m4 (by rw [e4]; exact pw_bd ((MP.Se.co_bd Ls).le (by rw [ps.pd.len]; exact s2)) i)
      have E4 := Lib.hid e4; have M4 := Lib.hid m4; clear e4 m4
      rcases (show kw = i ∨ i < kw by omega) with hk | hk
      · skip
        subst hk
        have hdv : MP.Se.Dv (co Lw) (co L4) := by
          rw [E4.out]
          have hd := MP.Se.nm_dg H2.out H4.out
          have := MP.Se.simple_power (MP.Se.co_fn Lw) H3.out HGC.out (MP.Se.co_fn Ls) (HE.out.trans (MP.Se.mul_comm _ _)) _ hd (MP.Se.Dv.refl _)
          have e1 : kw = (Lw.length - 1) + 1 := by rw [HKW.out]; omega
          rw [e1, MP.Se.pw_add]
          exact this.mul (MP.Se.Fn.pw (MP.Se.co_fn Ls) 1)
        have HDV := Lib.hid hdv; clear hdv
        have HWN := Lib.hid (show co Lw ≠ MP.Se.c 0 from fun e => H4.out (nm_zero H2.out e))
        go_wp2_with fail
        with_reducible refine (PDivide_any (J := 9601) (J2 := 48) (K := 14300) ((p4.kto (by omega)).pd) pw.pd (by omega) (by omega) (by omega)).mono ?_
        rintro e v10 ⟨hb1, hcase⟩
        obtain ⟨pw, ps, p4, hb⟩ := mv4 hb1 pw ps p4 hb
        clear hb1
        obtain ⟨_, Lz, Az, kz, cz, mz, hq, rfl, pz⟩ := (hcase.resolve_left (fun h => HWN.out h.1)).resolve_left (fun h => h.2.1 HDV.out)
        clear hcase hq pz mz
        go_wp2_with fail
        with_reducible refine (PDerive_any (J := 50) ps.pd (by omega)).mono ?_
        rintro e v11 ⟨A5, k5, c5, rfl, p5, hb1⟩
        obtain ⟨pw, ps, p4, hb⟩ := mv4 hb1 pw ps p4 hb
        clear hb1
        have hk5 : k5 ≤ 9 := by
          rw [← p5.pd.len]; refine Nat.le_trans (MP.Se.nf_len _) ?_
          rw [MP.Se.len_ls, ps.pd.len]; omega
        go_wp2_with fail
        with_reducible refine (PGcdG_any (J := 51) (D := 17) (B := 884) (ps.pd.kto (by omega)) (p5.pd.kto (by omega)) (by omega) (by omega) (by omega) (by omega) (by omega) (by omega) (by omega) (by omega)).mono ?_
        rintro e v12 ⟨Lu, hg, Au, ku, cu, rfl, pu, hb1⟩
        obtain ⟨pw, ps, p4, p5, hb⟩ := mv5 hb1 pw ps p4 p5 hb
        clear hb1
        have hu0 : Lu ≠ [] := hg.ne HS0.out
        have hg2 := hg.gc
        rw [dr_list] at hg2
        have hl1 : Lu.length - 1 = 0 := MP.Se.simple_free (MP.Se.co_fn Lw) H3.out HGC.out (MP.Se.co_fn Ls) (HE.out.trans (MP.Se.mul_comm _ _)) hg2 (MP.Se.nm_dg hg.nm hu0)
        have hl2 : Lu.length = 1 := by have := List.length_pos_iff.2 hu0; omega
        have HL := Lib.hid hl2; have HN := Lib.hid hg.nm
        clear hg hg2 hl1 hl2 hu0
        go_wp2_with fail
        with_reducible refine (PDegree_any (J := 1769) pu.pd (by omega)).mono ?_
        rintro e v13 ⟨rfl, hb1⟩
        obtain ⟨pw, ps, p4, p5, pu, hb⟩ := mv6 hb1 pw ps p4 p5 pu hb
        clear hb1
        rw [MP.Se.nf_id HN.out, HL.out, show (((1 : Nat) : Int) - 1) = 0 from rfl]
        go_wp2
        go_ret
        exact ⟨rfl, hb⟩
      · skip
        have hmm : k4 * ks ≤ 91 * 10 := Nat.mul_le_mul (by omega) s2
        go_wp2_with fail
        with_reducible refine (PMul_any (J := 1 + i * 960) (J2 := 50) (K := 1 + (i + 1) * 960) p4.pd ps.pd (by omega) (by omega) (by omega)).mono ?_
        rintro e v10 ⟨L6, m6, hL6, A6, k6, c6, rfl, p6, hb1⟩
        obtain ⟨pw, ps, p4, hb⟩ := mv4 hb1 pw ps p4 hb
        clear hb1
        have H6 : Hid (co L6 = MP.Se.pw (co Ls) (i + 1)) := Lib.hid (by rw [hL6, E4.out, MP.Se.pw, MP.Se.mul_comm])
        clear hL6 hmm
        go_wp2
        exact ⟨⟨i + 1, by omega, by go_num, pw, ps, ⟨_, A6, k6, c6, L6, rfl, p6.pd.pe, m6, H6.out⟩, hb⟩, by simp [intOf]; omega⟩
end Go.Proofs.Ytnidohbbimfpjaa
