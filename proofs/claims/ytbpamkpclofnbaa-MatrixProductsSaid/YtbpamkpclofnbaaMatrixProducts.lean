/-
  matrix: MatrixProducts.
-/
import Derived.Test.YtbpamkpclofnbaaMexc
import Derived.Test.YtbpamkpclofnbaaMshow
import Derived.Test.YtbpamkpclofnbaaMidx
namespace Go.Proofs.Ytbpamkpclofnbaa
open Go.RowKit
open MP.Se (nf co)
set_option linter.unusedVariables false
set_option maxRecDepth 100000

theorem tr_pos (A : MD.Mx) (i k : Nat) : MD.tr A i k = A k i := rfl
theorem turn_mul {MA MB LM LT LU LX LY : List (List Int)} {na nb q : Nat} (h1 : mo2 (MD.mul nb (mx MA) (mx MB)) na q = LM) (h2 : mo2 (MD.tr (mx LM)) q na = LX) (h3 : mo2 (MD.tr (mx MA)) nb na = LT) (h4 : mo2 (MD.tr (mx MB)) q nb = LU)
    (h5 : mo2 (MD.mul nb (mx LU) (mx LT)) q na = LY) : LX = LY := by
  subst h1 h2 h3 h4 h5
  refine mo2_ext fun i k hi hk => ?_
  rw [tr_pos, mx_mo2 hk hi]
  refine MD.sm_congr fun j hj => ?_
  rw [mx_mo2 hi hj, mx_mo2 hj hk, tr_pos, tr_pos, Int.mul_comm]
theorem mul_three {MA MB MC LM LN LO LW : List (List Int)} {na nb q s : Nat} (h1 : mo2 (MD.mul nb (mx MA) (mx MB)) na q = LM) (h2 : mo2 (MD.mul q (mx LM) (mx MC)) na s = LN) (h3 : mo2 (MD.mul q (mx MB) (mx MC)) nb s = LO)
    (h4 : mo2 (MD.mul nb (mx MA) (mx LO)) na s = LW) : LN = LW := by
  subst h1 h2 h3 h4
  refine mo2_ext fun i k hi hk => ?_
  have h := congrFun (congrFun (MD.mul_assoc nb q (mx MA) (mx MB) (mx MC)) i) k
  refine Eq.trans (MD.sm_congr fun j hj => ?_) (h.trans (MD.sm_congr fun j hj => ?_))
  · rw [mx_mo2 hi hj]
  · rw [mx_mo2 hj hk]
theorem det_prod {MA MB LM : List (List Int)} {n : Nat} (h1 : mo2 (MD.mul n (mx MA) (mx MB)) n n = LM) : MD.det n (mx LM) = MD.det n (mx MA) * MD.det n (mx MB) := by
  subst h1
  rw [← MD.det_mul]
  exact MD.det_congr fun i k hi hk => mx_mo2 hi hk
theorem det_turn {MA LT : List (List Int)} {n : Nat} (h1 : mo2 (MD.tr (mx MA)) n n = LT) : MD.det n (mx LT) = MD.det n (mx MA) := by
  subst h1
  rw [← MD.det_tr n (mx MA)]
  exact MD.det_congr fun i k hi hk => mx_mo2 hi hk
set_option maxHeartbeats 4000000 in
/-- The law. -/
theorem MatrixProducts_any {A B C : Option Addr} {na ca nb cb nc cc : Nat} {MA MB MC : List (List Int)} {w : World} (aa : Ma w A na ca MA) (ab : Ma w B nb cb MB) (ac : Ma w C nc cc MC) :
    Calls Try.prog 3 #[.slice A na ca, .slice B nb cb, .slice C nc cc] w fun e w' => e = .returned (.bool true) ∧ Below w.heap.size w w' := by
  have hb := Below.refl w.heap.size w
  go_enter Try.func3, Try.ntmps3
  go_wp2_with fail
  with_reducible refine (LMshown_any).mono ?_
  rintro e v1 ⟨rfl, hb1⟩
  obtain ⟨aa, ab, ac, hb⟩ := mv4 hb1 aa ab ac hb
  clear hb1
  go_wp2_with fail
  refine (RMFits_any (R := 6) (C := 6) (L := 1) aa (by omega) (by omega) (by omega)).mono ?_
  rintro e v2 ⟨hc, hb1⟩
  obtain ⟨aa, ab, ac, hb⟩ := mv4 hb1 aa ab ac hb
  clear hb1
  rcases hc with rfl | ⟨rfl, Na, ra, pa⟩
  · go_wp2; go_ret; exact ⟨rfl, hb⟩
  replace pa := pa.me
  have Ra := Lib.hid ra
  clear aa ra
  go_wp2_with fail
  refine (RMFits_any (R := 6) (C := 6) (L := 1) ab (by omega) (by omega) (by omega)).mono ?_
  rintro e v3 ⟨hc, hb1⟩
  obtain ⟨ab, ac, pa, hb⟩ := mv4 hb1 ab ac pa hb
  clear hb1
  rcases hc with rfl | ⟨rfl, Nb, rb, pb⟩
  · go_wp2; go_ret; exact ⟨rfl, hb⟩
  replace pb := pb.me
  have Rb := Lib.hid rb
  clear ab rb
  go_wp2_with fail
  refine (RMFits_any (R := 6) (C := 6) (L := 1) ac (by omega) (by omega) (by omega)).mono ?_
  rintro e v4 ⟨hc, hb1⟩
  obtain ⟨ac, pa, pb, hb⟩ := mv4 hb1 ac pa pb hb
  clear hb1
  rcases hc with rfl | ⟨rfl, Nc, rc, pc⟩
  · go_wp2; go_ret; exact ⟨rfl, hb⟩
  replace pc := pc.me
  have Rc := Lib.hid rc
  clear ac rc
  go_wp2_with fail
  with_reducible refine (MMul_any (J := 1) (J2 := 1) pa.md pb.md (by omega) (by omega) (fun q h => by have := h.wide Rb.out; omega) (by omega)).mono ?_
  rintro e v5 (⟨q, ra, rb, Am, nm, cm, rfl, pm, hb1⟩ | ⟨hno, rfl, hb1⟩)
  rotate_left
  · skip
    obtain ⟨pa, pb, pc, hb⟩ := mv4 hb1 pa pb pc hb
    clear hb1
    go_wp2
    go_ret
    exact ⟨rfl, hb⟩
  obtain ⟨pa, pb, pc, hb⟩ := mv4 hb1 pa pb pc hb
  clear hb1
  obtain rfl : na = nm := (mo2_len _ _ _).symm.trans pm.len
  have hq6 : q ≤ 6 := rb.wide Rb.out
  replace pm := pm.kto (show 1 + 1 + nb ≤ 8 by omega)
  obtain ⟨LM, hLM⟩ : ∃ L, mo2 (MD.mul nb (mx MA) (mx MB)) na q = L := ⟨_, rfl⟩
  rw [hLM] at pm
  have hpos : 0 < na ∧ 0 < nb ∧ 0 < q := ⟨ra.2.1, rb.2.1, rb.2.2.1⟩
  have HRM : Hid (Rt LM na q) := Lib.hid (hLM ▸ mo2_rt hpos.1 hpos.2.2)
  have HRA := Lib.hid ra; have HRB := Lib.hid rb; clear ra rb
  have HLM := Lib.hid hLM; clear hLM
  go_wp2_with fail
  with_reducible refine (MTurn_any (J := 8) pm.md (by omega) (fun q2 h => by have := (h.uni HRM.out).2; omega) (by omega)).mono ?_
  rintro e v6 hcase
  obtain ⟨q2, hr2, Ax, nx, cx, rfl, px, hb1⟩ := hcase.resolve_right (fun h => h.1 _ HRM.out)
  obtain rfl : q = q2 := (hr2.uni HRM.out).2.symm
  clear hr2 hcase
  obtain ⟨pa, pb, pc, pm, hb⟩ := mv5 hb1 pa pb pc pm hb
  clear hb1
  obtain rfl : q = nx := (mo2_len _ _ _).symm.trans px.len
  obtain ⟨LX, hLX⟩ : ∃ L, mo2 (MD.tr (mx LM)) q na = L := ⟨_, rfl⟩
  rw [hLX] at px
  have HRx : Hid (Rt LX q na) := Lib.hid (hLX ▸ mo2_rt (by omega) (by omega))
  have HLX := Lib.hid hLX; clear hLX
  go_wp2_with fail
  with_reducible refine (MTurn_any (J := 1) pa.md (by omega) (fun q2 h => by have := (h.uni HRA.out).2; omega) (by omega)).mono ?_
  rintro e v7 hcase
  obtain ⟨q2, hr2, At, nt, ct, rfl, pt, hb1⟩ := hcase.resolve_right (fun h => h.1 _ HRA.out)
  obtain rfl : nb = q2 := (hr2.uni HRA.out).2.symm
  clear hr2 hcase
  obtain ⟨pa, pb, pc, pm, px, hb⟩ := mv6 hb1 pa pb pc pm px hb
  clear hb1
  obtain rfl : nb = nt := (mo2_len _ _ _).symm.trans pt.len
  obtain ⟨LT, hLT⟩ : ∃ L, mo2 (MD.tr (mx MA)) nb na = L := ⟨_, rfl⟩
  rw [hLT] at pt
  have HRt : Hid (Rt LT nb na) := Lib.hid (hLT ▸ mo2_rt (by omega) (by omega))
  have HLT := Lib.hid hLT; clear hLT
  go_wp2_with fail
  with_reducible refine (MTurn_any (J := 1) pb.md (by omega) (fun q2 h => by have := (h.uni HRB.out).2; omega) (by omega)).mono ?_
  rintro e v8 hcase
  obtain ⟨q2, hr2, Au, nu, cu, rfl, pu, hb1⟩ := hcase.resolve_right (fun h => h.1 _ HRB.out)
  obtain rfl : q = q2 := (hr2.uni HRB.out).2.symm
  clear hr2 hcase
  obtain ⟨pa, pb, pc, pm, px, pt, hb⟩ := mv7 hb1 pa pb pc pm px pt hb
  clear hb1
  obtain rfl : q = nu := (mo2_len _ _ _).symm.trans pu.len
  obtain ⟨LU, hLU⟩ : ∃ L, mo2 (MD.tr (mx MB)) q nb = L := ⟨_, rfl⟩
  rw [hLU] at pu
  have HRu : Hid (Rt LU q nb) := Lib.hid (hLU ▸ mo2_rt (by omega) (by omega))
  have HLU := Lib.hid hLU; clear hLU
  go_wp2_with fail
  with_reducible refine (MMul_any (J := 1) (J2 := 1) pu.md pt.md (by omega) (by omega) (fun q2 h => by have := (h.uni HRt.out).2; omega) (by omega)).mono ?_
  rintro e v9 hcase
  obtain ⟨q3, hr3, hr4, Ay, ny, cy, rfl, py, hb1⟩ := hcase.resolve_right (fun h => h.1 _ ⟨HRu.out, HRt.out⟩)
  obtain rfl : na = q3 := (hr4.uni HRt.out).2.symm
  clear hr3 hr4 hcase
  obtain ⟨pa, pb, pc, pm, px, pt, pu, hb⟩ := mv8 hb1 pa pb pc pm px pt pu hb
  clear hb1
  obtain rfl : q = ny := (mo2_len _ _ _).symm.trans py.len
  replace py := py.kto (show 1 + 1 + nb ≤ 8 by omega)
  obtain ⟨LY, hLY⟩ : ∃ L, mo2 (MD.mul nb (mx LU) (mx LT)) q na = L := ⟨_, rfl⟩
  rw [hLY] at py
  have HRy : Hid (Rt LY q na) := Lib.hid (hLY ▸ mo2_rt (by omega) (by omega))
  have HLY := Lib.hid hLY; clear hLY
  go_wp2_with fail
  with_reducible refine (LMsame_any px py).mono ?_
  rintro e v10 ⟨rfl, hb1⟩
  obtain ⟨pa, pb, pc, pm, px, pt, pu, py, hb⟩ := mv9 hb1 pa pb pc pm px pt pu py hb
  clear hb1
  rw [show decide (LX = LY) = true from decide_eq_true (turn_mul HLM.out HLX.out HLT.out HLU.out HLY.out)]
  clear px py pu
  clear HLX HLY HLU HRx HRy HRu
  go_wp2_with fail
  with_reducible refine (MMul_any (J := 8) (J2 := 1) pm.md pc.md (by omega) (by omega) (fun q h => by have := h.wide Rc.out; omega) (by omega)).mono ?_
  rintro e v70 (⟨s, r1, r2, An, nn, cn, rfl, pn, hb1⟩ | ⟨hno, rfl, hb1⟩)
  focus
    obtain ⟨pa, pb, pc, pm, pt, hb⟩ := mv6 hb1 pa pb pc pm pt hb
    clear hb1
    obtain rfl : q = nc := (HRM.out.uni r1).2
    obtain rfl : na = nn := (mo2_len _ _ _).symm.trans pn.len
    have hs6 : s ≤ 6 := r2.wide Rc.out
    have HRC := Lib.hid r2
    have hs0 := r2.2.2.1
    clear r1 r2
    obtain ⟨LN, hLN⟩ : ∃ L, mo2 (MD.mul q (mx LM) (mx MC)) na s = L := ⟨_, rfl⟩
    rw [hLN] at pn
    have HLN := Lib.hid hLN; clear hLN
    go_wp2_with fail
    with_reducible refine (MMul_any (J := 1) (J2 := 1) pb.md pc.md (by omega) (by omega) (fun q2 h => by have := (h.uni HRC.out).2; omega) (by omega)).mono ?_
    rintro e v11 hcase
    obtain ⟨q3, hr3, hr4, Ao, no, co, rfl, po, hb1⟩ := hcase.resolve_right (fun h => h.1 _ ⟨HRB.out, HRC.out⟩)
    obtain rfl : s = q3 := (hr4.uni HRC.out).2.symm
    clear hr3 hr4 hcase
    obtain ⟨pa, pb, pc, pm, pt, pn, hb⟩ := mv7 hb1 pa pb pc pm pt pn hb
    clear hb1
    obtain rfl : nb = no := (mo2_len _ _ _).symm.trans po.len
    replace po := po.kto (show 1 + 1 + q ≤ 8 by omega)
    obtain ⟨LO, hLO⟩ : ∃ L, mo2 (MD.mul q (mx MB) (mx MC)) nb s = L := ⟨_, rfl⟩
    rw [hLO] at po
    have HRo : Hid (Rt LO nb s) := Lib.hid (hLO ▸ mo2_rt (by omega) (by omega))
    have HLO := Lib.hid hLO; clear hLO
    go_wp2_with fail
    with_reducible refine (MMul_any (J := 1) (J2 := 8) pa.md po.md (by omega) (by omega) (fun q2 h => by have := (h.uni HRo.out).2; omega) (by omega)).mono ?_
    rintro e v12 hcase
    obtain ⟨q3, hr3, hr4, Aw, nw, cw, rfl, pw, hb1⟩ := hcase.resolve_right (fun h => h.1 _ ⟨HRA.out, HRo.out⟩)
    obtain rfl : s = q3 := (hr4.uni HRo.out).2.symm
    clear hr3 hr4 hcase
    obtain ⟨pa, pb, pc, pm, pt, pn, po, hb⟩ := mv8 hb1 pa pb pc pm pt pn po hb
    clear hb1
    obtain rfl : na = nw := (mo2_len _ _ _).symm.trans pw.len
    replace pw := pw.kto (show 1 + 8 + nb ≤ 15 by omega)
    obtain ⟨LW, hLW⟩ : ∃ L, mo2 (MD.mul nb (mx MA) (mx LO)) na s = L := ⟨_, rfl⟩
    rw [hLW] at pw
    have HRw : Hid (Rt LW na s) := Lib.hid (hLW ▸ mo2_rt (by omega) (by omega))
    have HLW := Lib.hid hLW; clear hLW
    go_wp2_with fail
    with_reducible refine (LMsame_any pn pw).mono ?_
    rintro e v80 ⟨rfl, hb1⟩
    obtain ⟨pa, pb, pc, pm, pt, pn, po, pw, hb⟩ := mv9 hb1 pa pb pc pm pt pn po pw hb
    clear hb1
    rw [show decide (LN = LW) = true from decide_eq_true (mul_three HLM.out HLN.out HLO.out HLW.out)]
    clear pn po pw pc
    clear HLN HLO HLW HRo HRw HRC hs6 hs0 Rc
  rotate_left
  focus
    obtain ⟨pa, pb, pc, pm, pt, hb⟩ := mv6 hb1 pa pb pc pm pt hb
    clear hb1
    clear pc
    clear hno
    obtain ⟨v80, hv80⟩ : ∃ v, v = v70 := ⟨_, rfl⟩; subst hv80
  all_goals
    have hk1 : ∀ n, n ≤ 6 → kb 1 n ≤ 190 := fun n h => Nat.le_trans (kb_mono h) (by decide)
    have hk8 : kb 8 na ≤ 638 := Nat.le_trans (kb_mono Na) (by decide)
    have hka := hk1 na Na; have hkb := hk1 nb Nb
    clear hk1
    by_cases hsq : na = nb ∧ nb = q
    rotate_left
    · skip
      go_wp2_with fail
      with_reducible refine (MDet_any (J := 8) pm.md (by omega) (by omega) (by omega)).mono ?_
      rintro e w0 ⟨hb1, (⟨k_no, rfl⟩ | ⟨k_yes, Ak, kk, ck, rfl, zk⟩)⟩
      · skip
        obtain ⟨pa, pb, pm, pt, hb⟩ := mv5 hb1 pa pb pm pt hb
        clear hb1
        go_upto_region 20 with fail
        refine al1 fun v13 hb1 x_d => ?_
        replace x_d := Bx.of x_d
        obtain ⟨pa, pb, pm, pt, hb⟩ := mv5 hb1 pa pb pm pt hb
        clear hb1
        have q_d := x_d.al
        go_wp2_with fail
        with_reducible refine (MDet_any (J := 1) pa.md (by omega) (by omega) (by omega)).mono ?_
        rintro e w1 ⟨hb1, (⟨l_no, rfl⟩ | ⟨l_yes, Al, kl, cl, rfl, zl⟩)⟩
        · skip
          obtain ⟨x_d, pa, pb, pm, pt, hb⟩ := mv6 hb1 x_d pa pb pm pt hb
          clear hb1
          replace q_d := x_d.al
          go_upto_region 21 with fail
          refine al1 fun v14 hb1 x_v => ?_
          replace x_v := Bx.of x_v
          obtain ⟨x_d, pa, pb, pm, pt, hb⟩ := mv6 hb1 x_d pa pb pm pt hb
          clear hb1
          replace q_d := x_d.al
          have q_v := x_v.al
          go_wp2_with fail
          with_reducible refine (MDet_any (J := 1) pb.md (by omega) (by omega) (by omega)).mono ?_
          rintro e w2 ⟨hb1, (⟨j_no, rfl⟩ | ⟨j_yes, Aj, kj, cj, rfl, zj⟩)⟩
          · skip
            obtain ⟨x_d, x_v, pa, pb, pm, pt, hb⟩ := mv7 hb1 x_d x_v pa pb pm pt hb
            clear hb1
            replace q_d := x_d.al
            replace q_v := x_v.al
            have hkk : ((na : Int) == (q : Int)) = false := by have : ¬ (na = q) := fun e => k_no (HRM.out.sq.2 e); simp; omega
            go_upto_region 22 with fail
            refine al1 fun v15 hb1 x_w => ?_
            replace x_w := Bx.of x_w
            obtain ⟨x_d, x_v, pa, pb, pm, pt, hb⟩ := mv7 hb1 x_d x_v pa pb pm pt hb
            clear hb1
            replace q_d := x_d.al
            replace q_v := x_v.al
            have q_w := x_w.al
            obtain ⟨d0, o0, A0, m0, c0, rfl, x_0, p0⟩ := pm.row (k := 0) (by omega)
            obtain rfl : q = m0 := (HRM.out.row_len (by omega)).symm.trans p0.len
            have q_0 : v15.cell? ⟨d0, o0, none⟩ = some (.slice A0 q c0) := x_0.al
            go_wp2
            go_ret
            exact ⟨rfl, hb⟩
          · skip
            obtain ⟨x_d, x_v, pa, pb, pm, pt, hb⟩ := mv7 hb1 x_d x_v pa pb pm pt hb
            clear hb1
            replace q_d := x_d.al
            replace q_v := x_v.al
            clear zj
            have hkk : ((na : Int) == (q : Int)) = false := by have : ¬ (na = q) := fun e => k_no (HRM.out.sq.2 e); simp; omega
            go_upto_region 22 with fail
            refine al1 fun v15 hb1 x_w => ?_
            replace x_w := Bx.of x_w
            obtain ⟨x_d, x_v, pa, pb, pm, pt, hb⟩ := mv7 hb1 x_d x_v pa pb pm pt hb
            clear hb1
            replace q_d := x_d.al
            replace q_v := x_v.al
            have q_w := x_w.al
            obtain ⟨d0, o0, A0, m0, c0, rfl, x_0, p0⟩ := pm.row (k := 0) (by omega)
            obtain rfl : q = m0 := (HRM.out.row_len (by omega)).symm.trans p0.len
            have q_0 : v15.cell? ⟨d0, o0, none⟩ = some (.slice A0 q c0) := x_0.al
            go_wp2
            go_ret
            exact ⟨rfl, hb⟩
        · skip
          obtain ⟨x_d, pa, pb, pm, pt, hb⟩ := mv6 hb1 x_d pa pb pm pt hb
          clear hb1
          replace q_d := x_d.al
          clear zl
          go_upto_region 21 with fail
          refine al1 fun v14 hb1 x_v => ?_
          replace x_v := Bx.of x_v
          obtain ⟨x_d, pa, pb, pm, pt, hb⟩ := mv6 hb1 x_d pa pb pm pt hb
          clear hb1
          replace q_d := x_d.al
          have q_v := x_v.al
          go_wp2_with fail
          with_reducible refine (MDet_any (J := 1) pb.md (by omega) (by omega) (by omega)).mono ?_
          rintro e w2 ⟨hb1, (⟨j_no, rfl⟩ | ⟨j_yes, Aj, kj, cj, rfl, zj⟩)⟩
          · skip
            obtain ⟨x_d, x_v, pa, pb, pm, pt, hb⟩ := mv7 hb1 x_d x_v pa pb pm pt hb
            clear hb1
            replace q_d := x_d.al
            replace q_v := x_v.al
            have hkk : ((na : Int) == (q : Int)) = false := by have : ¬ (na = q) := fun e => k_no (HRM.out.sq.2 e); simp; omega
            go_upto_region 22 with fail
            refine al1 fun v15 hb1 x_w => ?_
            replace x_w := Bx.of x_w
            obtain ⟨x_d, x_v, pa, pb, pm, pt, hb⟩ := mv7 hb1 x_d x_v pa pb pm pt hb
            clear hb1
            replace q_d := x_d.al
            replace q_v := x_v.al
            have q_w := x_w.al
            obtain ⟨d0, o0, A0, m0, c0, rfl, x_0, p0⟩ := pm.row (k := 0) (by omega)
            obtain rfl : q = m0 := (HRM.out.row_len (by omega)).symm.trans p0.len
            have q_0 : v15.cell? ⟨d0, o0, none⟩ = some (.slice A0 q c0) := x_0.al
            go_wp2
            go_ret
            exact ⟨rfl, hb⟩
          · skip
            obtain ⟨x_d, x_v, pa, pb, pm, pt, hb⟩ := mv7 hb1 x_d x_v pa pb pm pt hb
            clear hb1
            replace q_d := x_d.al
            replace q_v := x_v.al
            clear zj
            have hkk : ((na : Int) == (q : Int)) = false := by have : ¬ (na = q) := fun e => k_no (HRM.out.sq.2 e); simp; omega
            exact absurd ⟨HRA.out.sq.1 l_yes, HRB.out.sq.1 j_yes⟩ hsq
      · skip
        obtain ⟨pa, pb, pm, pt, hb⟩ := mv5 hb1 pa pb pm pt hb
        clear hb1
        clear zk
        go_upto_region 20 with fail
        refine al1 fun v13 hb1 x_d => ?_
        replace x_d := Bx.of x_d
        obtain ⟨pa, pb, pm, pt, hb⟩ := mv5 hb1 pa pb pm pt hb
        clear hb1
        have q_d := x_d.al
        go_wp2_with fail
        with_reducible refine (MDet_any (J := 1) pa.md (by omega) (by omega) (by omega)).mono ?_
        rintro e w1 ⟨hb1, (⟨l_no, rfl⟩ | ⟨l_yes, Al, kl, cl, rfl, zl⟩)⟩
        · skip
          obtain ⟨x_d, pa, pb, pm, pt, hb⟩ := mv6 hb1 x_d pa pb pm pt hb
          clear hb1
          replace q_d := x_d.al
          go_upto_region 21 with fail
          refine al1 fun v14 hb1 x_v => ?_
          replace x_v := Bx.of x_v
          obtain ⟨x_d, pa, pb, pm, pt, hb⟩ := mv6 hb1 x_d pa pb pm pt hb
          clear hb1
          replace q_d := x_d.al
          have q_v := x_v.al
          go_wp2_with fail
          with_reducible refine (MDet_any (J := 1) pb.md (by omega) (by omega) (by omega)).mono ?_
          rintro e w2 ⟨hb1, (⟨j_no, rfl⟩ | ⟨j_yes, Aj, kj, cj, rfl, zj⟩)⟩
          · skip
            obtain ⟨x_d, x_v, pa, pb, pm, pt, hb⟩ := mv7 hb1 x_d x_v pa pb pm pt hb
            clear hb1
            replace q_d := x_d.al
            replace q_v := x_v.al
            have hkk : ((na : Int) == (q : Int)) = true := by have := HRM.out.sq.1 k_yes; simp; omega
            go_upto_region 22 with fail
            refine al1 fun v15 hb1 x_w => ?_
            replace x_w := Bx.of x_w
            obtain ⟨x_d, x_v, pa, pb, pm, pt, hb⟩ := mv7 hb1 x_d x_v pa pb pm pt hb
            clear hb1
            replace q_d := x_d.al
            replace q_v := x_v.al
            have q_w := x_w.al
            obtain ⟨d0, o0, A0, m0, c0, rfl, x_0, p0⟩ := pm.row (k := 0) (by omega)
            obtain rfl : q = m0 := (HRM.out.row_len (by omega)).symm.trans p0.len
            have q_0 : v15.cell? ⟨d0, o0, none⟩ = some (.slice A0 q c0) := x_0.al
            go_wp2
            go_ret
            exact ⟨rfl, hb⟩
          · skip
            obtain ⟨x_d, x_v, pa, pb, pm, pt, hb⟩ := mv7 hb1 x_d x_v pa pb pm pt hb
            clear hb1
            replace q_d := x_d.al
            replace q_v := x_v.al
            clear zj
            have hkk : ((na : Int) == (q : Int)) = true := by have := HRM.out.sq.1 k_yes; simp; omega
            go_upto_region 22 with fail
            refine al1 fun v15 hb1 x_w => ?_
            replace x_w := Bx.of x_w
            obtain ⟨x_d, x_v, pa, pb, pm, pt, hb⟩ := mv7 hb1 x_d x_v pa pb pm pt hb
            clear hb1
            replace q_d := x_d.al
            replace q_v := x_v.al
            have q_w := x_w.al
            obtain ⟨d0, o0, A0, m0, c0, rfl, x_0, p0⟩ := pm.row (k := 0) (by omega)
            obtain rfl : q = m0 := (HRM.out.row_len (by omega)).symm.trans p0.len
            have q_0 : v15.cell? ⟨d0, o0, none⟩ = some (.slice A0 q c0) := x_0.al
            go_wp2
            go_ret
            exact ⟨rfl, hb⟩
        · skip
          obtain ⟨x_d, pa, pb, pm, pt, hb⟩ := mv6 hb1 x_d pa pb pm pt hb
          clear hb1
          replace q_d := x_d.al
          clear zl
          go_upto_region 21 with fail
          refine al1 fun v14 hb1 x_v => ?_
          replace x_v := Bx.of x_v
          obtain ⟨x_d, pa, pb, pm, pt, hb⟩ := mv6 hb1 x_d pa pb pm pt hb
          clear hb1
          replace q_d := x_d.al
          have q_v := x_v.al
          go_wp2_with fail
          with_reducible refine (MDet_any (J := 1) pb.md (by omega) (by omega) (by omega)).mono ?_
          rintro e w2 ⟨hb1, (⟨j_no, rfl⟩ | ⟨j_yes, Aj, kj, cj, rfl, zj⟩)⟩
          · skip
            obtain ⟨x_d, x_v, pa, pb, pm, pt, hb⟩ := mv7 hb1 x_d x_v pa pb pm pt hb
            clear hb1
            replace q_d := x_d.al
            replace q_v := x_v.al
            have hkk : ((na : Int) == (q : Int)) = true := by have := HRM.out.sq.1 k_yes; simp; omega
            go_upto_region 22 with fail
            refine al1 fun v15 hb1 x_w => ?_
            replace x_w := Bx.of x_w
            obtain ⟨x_d, x_v, pa, pb, pm, pt, hb⟩ := mv7 hb1 x_d x_v pa pb pm pt hb
            clear hb1
            replace q_d := x_d.al
            replace q_v := x_v.al
            have q_w := x_w.al
            obtain ⟨d0, o0, A0, m0, c0, rfl, x_0, p0⟩ := pm.row (k := 0) (by omega)
            obtain rfl : q = m0 := (HRM.out.row_len (by omega)).symm.trans p0.len
            have q_0 : v15.cell? ⟨d0, o0, none⟩ = some (.slice A0 q c0) := x_0.al
            go_wp2
            go_ret
            exact ⟨rfl, hb⟩
          · skip
            obtain ⟨x_d, x_v, pa, pb, pm, pt, hb⟩ := mv7 hb1 x_d x_v pa pb pm pt hb
            clear hb1
            replace q_d := x_d.al
            replace q_v := x_v.al
            clear zj
            have hkk : ((na : Int) == (q : Int)) = true := by have := HRM.out.sq.1 k_yes; simp; omega
            exact absurd ⟨HRA.out.sq.1 l_yes, HRB.out.sq.1 j_yes⟩ hsq
    obtain ⟨rfl, rfl⟩ := hsq
    go_wp2_with fail
    with_reducible refine (MDet_any (J := 8) pm.md (by omega) (by omega) (by omega)).mono ?_
    rintro e v13 ⟨hb1, hcase⟩
    obtain ⟨pa, pb, pm, pt, hb⟩ := mv5 hb1 pa pb pm pt hb
    clear hb1
    obtain ⟨_, Ak, kk, ck, rfl, zk⟩ := hcase.resolve_left (fun h => h.1 HRM.out)
    clear hcase
    replace zk := zk.wide (show kb 8 na ≤ 638 by omega)
    obtain ⟨DM, hDM⟩ : ∃ D, MD.det na (mx LM) = D := ⟨_, rfl⟩
    rw [hDM] at zk ⊢
    have HDM := Lib.hid hDM; clear hDM
    go_upto_region 20 with fail
    refine al1 fun v14 hb1 x_d => ?_
    replace x_d := Bx.of x_d
    obtain ⟨pa, pb, pm, pt, zk, hb⟩ := mv6 hb1 pa pb pm pt zk hb
    clear hb1
    have q_d := x_d.al
    go_wp2_with fail
    with_reducible refine (MDet_any (J := 1) pa.md (by omega) (by omega) (by omega)).mono ?_
    rintro e v15 ⟨hb1, hcase⟩
    obtain ⟨x_d, pa, pb, pm, pt, zk, hb⟩ := mv7 hb1 x_d pa pb pm pt zk hb
    clear hb1
    replace q_d := x_d.al
    obtain ⟨_, Al, kl, cl, rfl, zl⟩ := hcase.resolve_left (fun h => h.1 HRA.out)
    clear hcase
    replace zl := zl.wide (show kb 1 na ≤ 190 by omega)
    obtain ⟨DA, hDA⟩ : ∃ D, MD.det na (mx MA) = D := ⟨_, rfl⟩
    rw [hDA] at zl ⊢
    have HDA := Lib.hid hDA; clear hDA
    go_upto_region 21 with fail
    refine al1 fun v16 hb1 x_v => ?_
    replace x_v := Bx.of x_v
    obtain ⟨x_d, pa, pb, pm, pt, zk, zl, hb⟩ := mv8 hb1 x_d pa pb pm pt zk zl hb
    clear hb1
    replace q_d := x_d.al
    have q_v := x_v.al
    go_wp2_with fail
    with_reducible refine (MDet_any (J := 1) pb.md (by omega) (by omega) (by omega)).mono ?_
    rintro e v17 ⟨hb1, hcase⟩
    obtain ⟨x_d, x_v, pa, pb, pm, pt, zk, zl, hb⟩ := mv9 hb1 x_d x_v pa pb pm pt zk zl hb
    clear hb1
    replace q_d := x_d.al
    replace q_v := x_v.al
    obtain ⟨_, Aj, kj, cj, rfl, zj⟩ := hcase.resolve_left (fun h => h.1 HRB.out)
    clear hcase
    replace zj := zj.wide (show kb 1 na ≤ 190 by omega)
    obtain ⟨DB, hDB⟩ : ∃ D, MD.det na (mx MB) = D := ⟨_, rfl⟩
    rw [hDB] at zj ⊢
    have HDB := Lib.hid hDB; clear hDB
    go_upto_region 22 with fail
    refine al1 fun v18 hb1 x_w => ?_
    replace x_w := Bx.of x_w
    obtain ⟨x_d, x_v, pa, pb, pm, pt, zk, zl, zj⟩ := mv9 hb1 x_d x_v pa pb pm pt zk zl zj
    replace hb := Mv.mv hb hb1
    clear hb1
    replace q_d := x_d.al
    replace q_v := x_v.al
    have q_w := x_w.al
    go_wp2_with fail
    with_reducible refine (MDet_any (J := 1) pt.md (by omega) (by omega) (by omega)).mono ?_
    rintro e v19 ⟨hb1, hcase⟩
    obtain ⟨x_d, x_v, x_w, pa, pb, pm, pt, zk, zl⟩ := mv9 hb1 x_d x_v x_w pa pb pm pt zk zl
    obtain ⟨zj, hb⟩ := mv2 hb1 zj hb
    clear hb1
    replace q_d := x_d.al
    replace q_v := x_v.al
    replace q_w := x_w.al
    obtain ⟨_, Ao, ko, co, rfl, zo⟩ := hcase.resolve_left (fun h => h.1 HRt.out)
    clear hcase
    replace zo := zo.wide (show kb 1 na ≤ 190 by omega)
    obtain ⟨DT, hDT⟩ : ∃ D, MD.det na (mx LT) = D := ⟨_, rfl⟩
    rw [hDT] at zo ⊢
    have HDT := Lib.hid hDT; clear hDT
    go_upto_region 26 with fail
    refine al1 fun v20 hb1 x_z => ?_
    replace x_z := Bx.of x_z
    obtain ⟨x_d, x_v, x_w, pa, pb, pm, pt, zk, zl⟩ := mv9 hb1 x_d x_v x_w pa pb pm pt zk zl
    obtain ⟨zj, zo, hb⟩ := mv3 hb1 zj zo hb
    clear hb1
    replace q_d := x_d.al
    replace q_v := x_v.al
    replace q_w := x_w.al
    have q_z := x_z.al
    go_region_held3 (fun w' => w'.cell? ⟨v13.heap.size, 0, none⟩ = some (.bool (ngB DM)) ∧ w'.cell? ⟨v13.heap.size, 1, none⟩ = some (.slice Ak kk ck) ∧ w'.cell? ⟨v15.heap.size, 0, none⟩ = some (.bool (ngB DA)) ∧ w'.cell? ⟨v15.heap.size, 1, none⟩ = some (.slice Al kl cl) ∧ w'.cell? ⟨v17.heap.size, 0, none⟩ = some (.bool (ngB DB)) ∧ w'.cell? ⟨v17.heap.size, 1, none⟩ = some (.slice Aj kj cj) ∧ w'.cell? ⟨v19.heap.size, 0, none⟩ = some (.bool (ngB DT)) ∧ w'.cell? ⟨v19.heap.size, 1, none⟩ = some (.slice Ao ko co))
      (first | (with_reducible exact ⟨x_d.c0, x_d.c1, x_v.c0, x_v.c1, x_w.c0, x_w.c1, x_z.c0, x_z.c1⟩) | go_keep)
      (first | (go_at_call 12; (with_reducible refine (RMulZ_any zl.zr.drw zj.zr.drw 400 (by omega) (by omega)).mono ?_); rintro e v21 ⟨A9, n9, c9, rfl, z9, hb1⟩; replace hb1 := undrew hb1; obtain ⟨x_d, x_v, x_w, x_z, pa, pb, pm, pt, zk⟩ := mv9 hb1 x_d x_v x_w x_z pa pb pm pt zk; obtain ⟨zl, zj, zo, hb⟩ := mv4 hb1 zl zj zo hb; clear hb1; replace q_d := x_d.al; replace q_v := x_v.al; replace q_w := x_w.al; replace q_z := x_z.al) | (go_at_call 11; (with_reducible refine (RExact_any zk z9).mono ?_); rintro e v22 ⟨rfl, hb1⟩; obtain ⟨x_d, x_v, x_w, x_z, pa, pb, pm, pt, zk⟩ := mv9 hb1 x_d x_v x_w x_z pa pb pm pt zk; obtain ⟨zl, zj, zo, z9, hb⟩ := mv5 hb1 zl zj zo z9 hb; clear hb1; replace q_d := x_d.al; replace q_v := x_v.al; replace q_w := x_w.al; replace q_z := x_z.al; rw [show decide (DM = DA * DB) = true from decide_eq_true (by rw [← HDM.out, ← HDA.out, ← HDB.out]; exact det_prod HLM.out)]) | (go_at_call 11; (with_reducible refine (RExact_any zo zl).mono ?_); rintro e v23 ⟨rfl, hb1⟩; obtain ⟨x_d, x_v, x_w, x_z, pa, pb, pm, pt, zk⟩ := mv9 hb1 x_d x_v x_w x_z pa pb pm pt zk; obtain ⟨zl, zj, zo, z9, hb⟩ := mv5 hb1 zl zj zo z9 hb; clear hb1; replace q_d := x_d.al; replace q_v := x_v.al; replace q_w := x_w.al; replace q_z := x_z.al; rw [show decide (DT = DA) = true from decide_eq_true (by rw [← HDT.out, ← HDA.out]; exact det_turn HLT.out)]))
    go_wp2
    go_ret
    exact ⟨rfl, hb⟩
end Go.Proofs.Ytbpamkpclofnbaa
