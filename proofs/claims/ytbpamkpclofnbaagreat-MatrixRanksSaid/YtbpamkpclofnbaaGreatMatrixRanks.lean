/-
  matrix: MatrixRanks.
-/
import Derived.Test.YtbpamkpclofnbaaGreatMclo
import Derived.Test.YtbpamkpclofnbaaGreatMshow
import Derived.Test.YtbpamkpclofnbaaGreatMcat
import Derived.Test.YtbpamkpclofnbaaGreatMcof
import Derived.Test.YtbpamkpclofnbaaGreatMraw
namespace Go.Proofs.YtbpamkpclofnbaaGreat
open Go.RowKit
open MP.Se (nf co)
set_option linter.unusedVariables false
set_option maxRecDepth 100000

/-- The row that is laid behind. -/
def lstR (MA : List (List Int)) (n m : Nat) : List Int := lsN m fun k => mx MA 0 k - 3 * mx MA (n - 1) k
theorem mx_app {MA : List (List Int)} {L : List Int} {n i k : Nat} (hn : MA.length = n) (hi : i < n) : mx (MA ++ [L]) i k = mx MA i k := by
  unfold mx
  rw [List.getD_eq_getElem?_getD, List.getD_eq_getElem?_getD, List.getD_eq_getElem?_getD, List.getD_eq_getElem?_getD, List.getElem?_append_left (by omega)]
theorem mx_app2 {MA : List (List Int)} {L : List Int} {n k : Nat} (hn : MA.length = n) : mx (MA ++ [L]) n k = L.getD k 0 := by
  unfold mx
  rw [List.getD_eq_getElem?_getD (l := MA ++ [L]), List.getElem?_append_right (by omega)]
  simp [hn]
theorem rt_app {MA : List (List Int)} {L : List Int} {n m : Nat} (h : Rt MA n m) (hL : L.length = m) : Rt (MA ++ [L]) (n + 1) m := ⟨by simp [h.1], by omega, h.2.2.1, fun k hk => by
  rcases (show k < MA.length ∨ k = MA.length by simp at hk; omega) with h2 | h2
  · rw [List.getElem_append_left h2]; exact h.2.2.2 k h2
  · subst h2; simp [hL]⟩
theorem rk_app {MA : List (List Int)} {n m s : Nat} (h : Rt MA n m) (hk : MD.Rk (mx MA) n m s) : MD.Rk (mx (MA ++ [lstR MA n m])) (n + 1) m s := by
  have h0 := h.2.1
  refine hk.more (i1 := 0) (i2 := n - 1) (a := 1) (b := -3) (by omega) (by omega) (fun i k hi _ => mx_app h.1 hi) fun k hk => ?_
  rw [mx_app2 h.1, lstR, lsN_getD hk]
  omega
theorem rk_turn {MA LT : List (List Int)} {n m s : Nat} (hk : MD.Rk (mx MA) n m s) (hT : mo2 (MD.tr (mx MA)) m n = LT) : MD.Rk (mx LT) m n s := by
  subst hT
  exact hk.tr.congr fun i k hi hk => (mx_mo2 hi hk).symm
theorem rk_mul {MA MB LX : List (List Int)} {n m c sa sb s : Nat} (h : MD.Rk (mx MA) n m sa) (h2 : MD.Rk (mx MB) m c sb) (hX : mo2 (MD.mul m (mx MA) (mx MB)) n c = LX) (h3 : MD.Rk (mx LX) n c s) : s ≤ sa ∧ s ≤ sb ∧ sa + sb ≤ s + m := by
  subst hX
  exact h.prod h2 (h3.congr fun i k hi hk => mx_mo2 hi hk)
theorem Ec.gr2 {s : Value} {w w' : World} {d o n c : Nat} {b : Bool} {A : Option Addr} (h : Ec w d o b A n c) (hg : Gr s w w') (hne : s.ownBlock ≠ some d) : Ec w' d o b A n c :=
  ⟨Nat.lt_of_lt_of_le h.1 hg.grown.size, (World.cell?_of_block (hg.at_ h.1 hne)).trans h.2.1, (World.cell?_of_block (hg.at_ h.1 hne)).trans h.2.2⟩
theorem lsN_snoc (m : Nat) (f : Nat → Int) : lsN m f ++ [f m] = lsN (m + 1) f := by simp [lsN, List.range_succ]
theorem gk_at {l : List Int} {k : Nat} (h : k < l.length) : l.getD k 0 = l[k] := by simp [List.getD, h]
theorem gd_at {MA : List (List Int)} {k : Nat} (h : k < MA.length) : MA[k] = MA.getD k [] := by simp [List.getD, h]
theorem raw_app {MA : List (List Int)} {L : List Int} {RR : List (List (Bool × List Int))} {R : List (Bool × List Int)} (h : MA = RR.map vr) (h2 : L = R.map fun r => zi r.1 (vl Wd r.2)) : (RR ++ [R]).map vr = MA ++ [L] := by subst h h2; simp [vr]
theorem rl_app {J K : Nat} {RR : List (List (Bool × List Int))} {R : List (Bool × List Int)} (h : Rl RR J) (hJ : J ≤ K) (h2 : ∀ r ∈ R, r.2.length ≤ K) : Rl (RR ++ [R]) K := fun X hX r hr => by
  rcases List.mem_append.1 hX with h3 | h3
  · exact Nat.le_trans (h X h3 r hr) hJ
  · simp at h3; subst h3; exact h2 r hr
theorem raw_len {MA : List (List Int)} {RR : List (List (Bool × List Int))} {C : Nat} (h : MA = RR.map vr) (hc : ∀ k (hk : k < MA.length), MA[k].length ≤ C) : ∀ R ∈ RR, R.length ≤ C := fun R hR => by
  obtain ⟨k, hk, rfl⟩ := List.mem_iff_getElem.1 hR
  subst h
  have := hc k (by simpa using hk)
  simpa [vr] using this
theorem sg_eq0 {D : Int} (h : D ≠ 0) : (sgnI D == (0 : Int)) = false := by
  unfold sgnI; split <;> (try split) <;> simp_all
set_option maxHeartbeats 8000000 in
/-- The law. -/
theorem MatrixRanks_any {A B : Option Addr} {na ca nb cb : Nat} {MA MB : List (List Int)} {w : World} (aa : Ma w A na ca MA) (ab : Ma w B nb cb MB) :
    Calls Tryz.prog 10 #[.slice A na ca, .slice B nb cb] w fun e w' => e = .returned (.bool true) ∧ Below w.heap.size w w' := by
  have hb := Below.refl w.heap.size w
  go_enter Tryz.func10, Tryz.ntmps10
  go_wp2_with fail
  with_reducible refine (LMshown_any).mono ?_
  rintro e v1 ⟨rfl, hb1⟩
  obtain ⟨aa, ab, hb⟩ := mv3 hb1 aa ab hb
  clear hb1
  go_wp2_with fail
  refine (RMFits_any (R := 6) (C := 6) (L := 1) aa (by omega) (by omega) (by omega)).mono ?_
  rintro e v2 ⟨hc, hb1⟩
  obtain ⟨aa, ab, hb⟩ := mv3 hb1 aa ab hb
  clear hb1
  rcases hc with rfl | ⟨rfl, Na, ra, pa⟩
  · go_wp2; go_ret; exact ⟨rfl, hb⟩
  replace pa := pa.me
  have Ra := Lib.hid ra
  clear aa ra
  go_wp2_with fail
  refine (RMFits_any (R := 6) (C := 6) (L := 1) ab (by omega) (by omega) (by omega)).mono ?_
  rintro e v3 ⟨hc, hb1⟩
  obtain ⟨ab, pa, hb⟩ := mv3 hb1 ab pa hb
  clear hb1
  rcases hc with rfl | ⟨rfl, Nb, rb, pb⟩
  · go_wp2; go_ret; exact ⟨rfl, hb⟩
  replace pb := pb.me
  have Rb := Lib.hid rb
  clear ab rb
  have hk1 : ∀ n, n ≤ 6 → kb 1 n ≤ 190 := fun n h => Nat.le_trans (kb_mono h) (by decide)
  have hka := hk1 na Na; have hkb := hk1 nb Nb
  have hkb4 : kb 4 (na + 1) ≤ 1000 := Nat.le_trans (kb_mono (show na + 1 ≤ 7 by omega)) (by decide)
  have hk8 : kb 8 na ≤ 638 := Nat.le_trans (kb_mono Na) (by decide)
  go_wp2_with fail
  with_reducible refine (MRank_any (J := 1) pa.md (by omega) (by omega) (by omega)).mono ?_
  rintro e v50 ⟨hb1, (⟨hno, rfl⟩ | ⟨q, s, hr, hk, rfl⟩)⟩
  · skip
    obtain ⟨pa, pb, hb⟩ := mv3 hb1 pa pb hb
    clear hb1
    go_wp2
    go_ret
    exact ⟨rfl, by first | exact hb | exact bthen hb (below_alloc _ _)⟩
  obtain ⟨pa, pb, hb⟩ := mv3 hb1 pa pb hb
  clear hb1
  have hs1 := hk.le_rows; have hs2 := hk.le_cols
  have hq6 : q ≤ 6 := hr.wide Ra.out
  have hpos : 0 < na ∧ 0 < q := ⟨hr.2.1, hr.2.2.1⟩
  have HK := Lib.hid hk; have HR := Lib.hid hr
  have hk7 := hk1 q hq6
  clear hk hr
  go_wp2_with fail
  with_reducible refine (MTurn_any (J := 1) pa.md (by omega) (fun q2 h => by have := (h.uni HR.out).2; omega) (by omega)).mono ?_
  rintro e v4 hcase
  obtain ⟨q2, hr2, At, nt, ct, rfl, pt, hb1⟩ := hcase.resolve_right (fun h => h.1 _ HR.out)
  obtain rfl : q = q2 := (hr2.uni HR.out).2.symm
  clear hr2 hcase
  obtain ⟨pa, pb, hb⟩ := mv3 hb1 pa pb hb
  clear hb1
  obtain rfl : q = nt := (mo2_len _ _ _).symm.trans pt.len
  obtain ⟨LT, hLT⟩ : ∃ L, mo2 (MD.tr (mx MA)) q na = L := ⟨_, rfl⟩
  rw [hLT] at pt
  have HRT : Hid (Rt LT q na) := Lib.hid (hLT ▸ mo2_rt hpos.2 hpos.1)
  have HLT := Lib.hid hLT; clear hLT
  go_wp2_with fail
  with_reducible refine (MRank_any (J := 1) pt.md (by omega) (by omega) (by omega)).mono ?_
  rintro e v5 ⟨hb1, hcase⟩
  obtain ⟨pa, pb, pt, hb⟩ := mv4 hb1 pa pb pt hb
  clear hb1
  obtain ⟨q3, s3, hr3, hk3, rfl⟩ := hcase.resolve_left (fun h => h.1 _ HRT.out)
  obtain rfl : na = q3 := (hr3.uni HRT.out).2.symm
  obtain rfl : s = s3 := ((rk_turn HK.out HLT.out).one hk3)
  clear hcase hr3 hk3
  clear pt
  clear HLT HRT
  obtain ⟨d, o, A0, m0, c0, rfl, hd0, x_0, z0⟩ := pa.row (k := 0) hpos.1
  obtain ⟨d1, o1, A1, m1, c1, e1, hd1, x_1, z1⟩ := pa.row (k := na - 1) (by omega)
  injection e1 with e1
  injection e1 with e2 e3
  subst e2
  subst e3
  obtain rfl : q = m0 := (HR.out.row_len hpos.1).symm.trans z0.pd.len
  obtain rfl : q = m1 := (HR.out.row_len (by omega)).symm.trans z1.pd.len
  rw [gd_at] at z0 z1
  obtain ⟨pl, hpl⟩ : ∃ p, na - 1 = p := ⟨_, rfl⟩
  rw [hpl] at x_1 z1
  have hpn : pl < na := by omega
  have HPL := Lib.hid hpl; clear hpl
  have PA := Lib.hid pa; have PB := Lib.hid pb; have X0 := Lib.hid x_0; have X1 := Lib.hid x_1; have Z0 := Lib.hid z0; have Z1 := Lib.hid z1; have HB := Lib.hid hb
  clear pa pb x_0 x_1 z0 z1 hb hd0 hd1
  go_upto_region 10 with fail
  refine al1 fun v60 hbl x_o => ?_
  have gz : Gz v60 v5.heap.size 4 (.slice (some ⟨v5.heap.size, 0, none⟩) 0 0) (lsN 0 fun k => mx MA 0 k - 3 * mx MA pl k) := gz_new x_o (Nat.le_refl _)
  clear x_o
  have q_0 : v60.cell? ⟨d, o, none⟩ = some (.slice A0 q c0) := (X0.out.keep hbl).al
  go_wp2_with fail
  go_loopw [12, 13] (fun sv kv wr => ∃ (t : Value) (wo : World) (k : Nat), t = sv ∧ wo = wr ∧ k ≤ q ∧ kv = .int .i64 (k : Int) ∧ Gz wo v5.heap.size 4 t (lsN k fun k => mx MA 0 k - 3 * mx MA pl k) ∧ Below v5.heap.size v5 wo) (fun _ kv _ => q - (intOf kv).toNat)
  case atStart => exact ⟨_, _, 0, rfl, rfl, by omega, rfl, gz, hbl⟩
  case round =>
    clear gz hbl q_0
    obtain ⟨t, wo, k, rfl, rfl, hkq, rfl, gz, hbl⟩ := hrel
    have pa := PA.out.keep hbl; have pb := PB.out.keep hbl; have x_0 := X0.out.keep hbl; have x_1 := X1.out.keep hbl; have z0 := Z0.out.keep hbl; have z1 := Z1.out.keep hbl
    have hss := hbl.size
    have q_0 : wo.cell? ⟨d, o, none⟩ = some (.slice A0 q c0) := x_0.al
    rcases (show q = k ∨ k < q by omega) with hkn | hkn
    rotate_left
    · skip
      obtain ⟨d6, o6, b6, A6, n6, c6, rfl, hd6, x_f, zf⟩ := z0.ec (k := k) hkn
      obtain ⟨d7, o7, b7, A7, n7, c7, rfl, hd7, x_g, zg⟩ := z1.ec (k := k) hkn
      have htk0 := lsN_snoc k fun k => mx MA 0 k - 3 * mx MA pl k
      rw [show mx MA 0 k = (MA.getD 0 []).getD k 0 from rfl, show mx MA pl k = (MA.getD pl []).getD k 0 from rfl] at htk0
      have e0 : (MA.getD 0 []).getD k 0 = (MA.getD 0 [])[k]'(by rw [z0.pd.len]; exact hkn) := gk_at _
      have e1 : (MA.getD pl []).getD k 0 = (MA.getD pl [])[k]'(by rw [z1.pd.len]; exact hkn) := gk_at _
      rw [e0, e1] at htk0
      generalize (MA.getD 0 [])[k]'(by rw [z0.pd.len]; exact hkn) = X at htk0 zf
      generalize (MA.getD pl [])[k]'(by rw [z1.pd.len]; exact hkn) = Y at htk0 zg
      have hln : (lsN k fun k => mx MA 0 k - 3 * mx MA pl k).length ≤ 1000 := by rw [lsN_len]; omega
      generalize (lsN k fun k => mx MA 0 k - 3 * mx MA pl k) = L at *
      have hidx : IntKind.i64.wrap ((na : Int) - 1) = (pl : Int) := by have := HPL.out; rw [i64_keep (by omega) (by omega)]; omega
      have htk := Lib.hid htk0
      clear pa pb z0 z1 e0 e1 q_0 htk0
      replace x_0 : Vc wo d o (.slice (some ⟨d6, o6, none⟩) q c0) := x_0
      have q_0 := x_0.al
      have q_1 := x_1.al
      have q_f := x_f.al
      have q_g := x_g.al
      have g0 := X0.out.lt; have g2 := Z0.out.1; have g3 := Z1.out.1
      have hb := hbl
      have hVw : Below v5.heap.size v5 wo := hbl
      go_upto_region 13 with fail
      go_region_held3 (fun w' => w'.cell? ⟨d, o, none⟩ = some (.slice (some ⟨d6, o6, none⟩) q c0) ∧ w'.cell? ⟨d, o + pl, none⟩ = some (.slice (some ⟨d7, o7, none⟩) q c1) ∧ w'.cell? ⟨d6, o6 + k * 2, none⟩ = some (.bool b6) ∧ w'.cell? ⟨d6, o6 + k * 2 + 1, none⟩ = some (.slice A6 n6 c6) ∧ w'.cell? ⟨d7, o7 + k * 2, none⟩ = some (.bool b7) ∧ w'.cell? ⟨d7, o7 + k * 2 + 1, none⟩ = some (.slice A7 n7 c7))
        (first | (with_reducible exact ⟨x_0.c0, x_1.c0, x_f.c0, x_f.c1, x_g.c0, x_g.c1⟩) | go_keep)
        (first | (go_at_call 54; (with_reducible refine (ROf_any 3 (by omega) (by omega)).mono ?_); rintro e v6 ⟨A9, n9, c9, rfl, z9, hb1⟩; replace hb1 := undrew hb1; obtain ⟨x_0, x_1, x_f, x_g, zf, zg, gz, hb⟩ := mv8 hb1 x_0 x_1 x_f x_g zf zg gz hb; clear hb1; replace q_0 := x_0.al; replace q_1 := x_1.al; replace q_f := x_f.al; replace q_g := x_g.al; replace hss := hb.size) | (go_at_call 49; (with_reducible refine (RMulZ_any z9.zr zg 2 (by omega) (by omega)).mono ?_); rintro e v7 ⟨A10, n10, c10, rfl, z10, hb1⟩; obtain ⟨x_0, x_1, x_f, x_g, zf, zg, gz, z9, hb⟩ := mv9 hb1 x_0 x_1 x_f x_g zf zg gz z9 hb; clear hb1; replace q_0 := x_0.al; replace q_1 := x_1.al; replace q_f := x_f.al; replace q_g := x_g.al; replace hss := hb.size) | (go_at_call 53; (with_reducible refine (RSubZ_any zf z10.zr 4 (by omega) (by omega) (by omega)).mono ?_); rintro e v8 ⟨A11, n11, c11, rfl, z11, hb1⟩; obtain ⟨x_0, x_1, x_f, x_g, zf, zg, gz, z9, z10⟩ := mv9 hb1 x_0 x_1 x_f x_g zf zg gz z9 z10; replace hb := Mv.mv hb hb1; clear hb1; replace q_0 := x_0.al; replace q_1 := x_1.al; replace q_f := x_f.al; replace q_g := x_g.al; replace hss := hb.size) | (refine step_pushGI (V := v8) (by rfl) _ _ (by rfl) (by rfl) gz hln hss z11 (by rfl) ?_; intro s8 w8 hpu; replace x_0 := x_0.gr hpu.2.1 (gz.ne (.inl (by omega))); replace x_1 := x_1.gr hpu.2.1 (gz.ne (.inl (by omega))); replace x_f := x_f.gr2 hpu.2.1 (gz.ne (.inl (by omega))); replace x_g := x_g.gr2 hpu.2.1 (gz.ne (.inl (by omega)))))
      all_goals
        have hgz := hpu.1
        rw [htk.out] at hgz
        have hb2 := Gr.below hb hss gz hpu.2.1 (Nat.le_refl _)
        clear x_0 x_1 x_f x_g q_0 q_1 q_f q_g gz hpu htk
        go_wp2_with fail
        exact ⟨⟨_, _, k + 1, rfl, rfl, by omega, by go_num, hgz, hb2⟩, by simp [intOf]; omega⟩
    subst hkn
    have hlq : 0 < (lsN q fun k => mx MA 0 k - 3 * mx MA pl k).length := by rw [lsN_len]; exact hpos.2
    obtain ⟨g9, c9, rfl, hg9, hl9, p9⟩ := gz.blk hlq (by rw [lsN_len]; omega)
    rw [lsN_len] at p9
    simp only [lsN_len]
    have hL9 : Hid ((lsN q fun k => mx MA 0 k - 3 * mx MA pl k) = lstR MA na q) := Lib.hid (by rw [← HPL.out]; rfl)
    rw [hL9.out] at p9
    have hb := bthen HB.out hbl
    obtain ⟨RR, pr, hMR, hRJ⟩ := pa.md.raw
    have hRl := raw_len hMR Ra.out
    have hRR := pr.len
    have PA2 := Lib.hid pa; have PB2 := Lib.hid pb; have HB2 := Lib.hid hb
    have HBL := Lib.hid hbl
    go_wp2_with fail
    clear pa pb x_0 x_1 z0 z1 q_0 gz hbl hlq hL9 hss
    with_reducible refine (MOwn_any pr (by omega) (fun R hR => Nat.le_trans (hRl R hR) (by omega)) hRJ (by omega)).mono ?_
    rintro e v6 ⟨so, cs, rfl, gm, rw_, hb1⟩
    have hBw := hb1.size; have hbo := hb1
    obtain ⟨p9, hb⟩ := mv2 hb1 p9 hb
    clear hb1
    have hne9 : so.ownBlock ≠ some g9 := fun e => by have := (gm.lt e).1; omega
    have hcs : cs.length = na := rw_.1.trans hRR
    have hcl : cs.length ≤ 1000 := by omega
    obtain ⟨RL, prl, hRL, hRL4⟩ := p9.pd.raw
    go_wp2_with (at_builtin; refine wp_pushM rfl _ _ rfl rfl gm hcl hBw rfl ?_; intro s9 w9 hpm)
    have r2 := rw_.push prl (fun _ d o e h => by injection e with e; injection e with e1 e2; subst e1; exact hne9 h) hpm
    have hbz := Gr.belowM hbo hBw gm hpm.2.1 (Nat.le_refl _)
    obtain ⟨Al, cl, rfl, pl9⟩ := RwR.mr hpm.1 r2 (by simp; omega)
    have hlen : (cs ++ [Value.slice (some ⟨g9, 0, none⟩) q c9]).length = na + 1 := by simp [hcs]
    rw [hlen] at pl9 ⊢
    have pL := pl9.md (rl_app hRJ (show 1 ≤ 4 by omega) hRL4)
    rw [raw_app hMR hRL] at pL
    have HRL9 : Hid (Rt (MA ++ [lstR MA na q]) (na + 1) q) := Lib.hid (rt_app HR.out (lsN_len _ _))
    have hb := bthen HB2.out hbz; have pa := PA2.out.keep hbz; have pb := PB2.out.keep hbz; have x_0 := X0.out.keep (bthen HBL.out hbz)
    replace x_0 : Vc w9 d o (.slice A0 q c0) := x_0
    clear p9 gm rw_ r2 pl9 prl pr hpm hbz hbo hRL hMR hlen PA2 PB2 HB2 HBL
    have q_0 := x_0.al
    go_wp2_with fail
    with_reducible refine (MRank_any (J := 4) pL (by omega) (by omega) (by omega)).mono ?_
    rintro e v7 ⟨hb1, hcase⟩
    obtain ⟨x_0, pa, pb, hb⟩ := mv4 hb1 x_0 pa pb hb
    clear hb1
    replace q_0 := x_0.al
    obtain ⟨q4, s4, hr4, hk4, rfl⟩ := hcase.resolve_left (fun h => h.1 q HRL9.out)
    obtain rfl : q = q4 := (hr4.uni HRL9.out).2.symm
    obtain rfl : s = s4 := (rk_app HR.out HK.out).one hk4
    clear hcase hr4 hk4 pL HRL9
    go_wp2_with fail
    all_goals
      clear x_0 q_0
      by_cases hsq : na = q
      rotate_left
      focus
        with_reducible refine (MDet_any (J := 1) pa.md (by omega) (by omega) (by omega)).mono ?_
        rintro e v8 ⟨hb1, hcase⟩
        obtain ⟨pa, pb, hb⟩ := mv3 hb1 pa pb hb
        clear hb1
        obtain ⟨_, rfl⟩ := hcase.resolve_right (fun h => hsq (HR.out.sq.1 h.1))
        clear hcase hsq
        go_wp2_with fail
        refine al1c fun v9 hb1 x_d => ?_
        replace x_d := Bx.of x_d
        obtain ⟨pa, pb, hb⟩ := mv3 hb1 pa pb hb
        clear hb1
        have q_d := x_d.al
        clear x_d q_d
      rotate_left
      have HRS : Hid (Rt MA na na) := Lib.hid (HR.out.sq.2 hsq)
      have HKS : Hid (MD.det na (mx MA) = 0 ↔ s < na) := Lib.hid (by have h := HK.out; rw [← hsq] at h; exact h.full)
      clear hsq
      by_cases hD0 : MD.det na (mx MA) = 0
      focus
        have hlt : s < na := HKS.out.1 hD0
        have HLT2 : Hid ((s : Int) < (na : Int)) := Lib.hid (by omega)
        with_reducible refine (MDet_any (J := 1) pa.md (by omega) (by omega) (by omega)).mono ?_
        rintro e v10 ⟨hb1, hcase⟩
        obtain ⟨pa, pb, hb⟩ := mv3 hb1 pa pb hb
        clear hb1
        obtain ⟨_, Ad, kd, cd, rfl, zd⟩ := hcase.resolve_left (fun h => h.1 HRS.out)
        clear hcase
        rw [hD0] at zd ⊢
        clear hD0 hlt
        go_wp2_with fail
        refine al1c fun v11 hb1 x_d => ?_
        replace x_d := Bx.of x_d
        obtain ⟨pa, pb, zd, hb⟩ := mv4 hb1 pa pb zd hb
        clear hb1
        have q_d := x_d.al
        have hlt2 := HLT2.out
        with_reducible refine (RSignZ_any zd.zr (by omega)).mono ?_
        rintro e v12 ⟨rfl, hb1⟩
        obtain ⟨x_d, pa, pb, zd, hb⟩ := mv5 hb1 x_d pa pb zd hb
        clear hb1
        replace q_d := x_d.al
        rw [show sgnI 0 = 0 from rfl]
        go_wp2_with fail
        all_goals clear zd x_d q_d
      rotate_left
      focus
        have hlt : ¬ (s < na) := fun h => hD0 (HKS.out.2 h)
        have HLT2 : Hid (¬ ((s : Int) < (na : Int))) := Lib.hid (by omega)
        with_reducible refine (MDet_any (J := 1) pa.md (by omega) (by omega) (by omega)).mono ?_
        rintro e v13 ⟨hb1, hcase⟩
        obtain ⟨pa, pb, hb⟩ := mv3 hb1 pa pb hb
        clear hb1
        obtain ⟨_, Ad, kd, cd, rfl, zd⟩ := hcase.resolve_left (fun h => h.1 HRS.out)
        clear hcase
        have HS0 := Lib.hid (sg_eq0 hD0)
        clear hD0 hlt
        go_wp2_with fail
        refine al1c fun v14 hb1 x_d => ?_
        replace x_d := Bx.of x_d
        obtain ⟨pa, pb, zd, hb⟩ := mv4 hb1 pa pb zd hb
        clear hb1
        have q_d := x_d.al
        have hlt2 := HLT2.out
        have hs0 := HS0.out
        with_reducible refine (RSignZ_any zd.zr (by omega)).mono ?_
        rintro e v15 ⟨rfl, hb1⟩
        obtain ⟨x_d, pa, pb, zd, hb⟩ := mv5 hb1 x_d pa pb zd hb
        clear hb1
        replace q_d := x_d.al
        go_wp2_with fail
        all_goals clear zd x_d q_d hs0
      rotate_left
      all_goals
        with_reducible refine (MMul_any (J := 1) (J2 := 1) pa.md pb.md (by omega) (by omega) (fun q2 h => by have := h.wide Rb.out; omega) (by omega)).mono ?_
        rintro e w90 (⟨u, r1, r2, Ax, nx, cx, rfl, px, hb1⟩ | ⟨hno, rfl, hb1⟩)
        rotate_left
        · skip
          obtain ⟨pa, pb, hb⟩ := mv3 hb1 pa pb hb
          clear hb1
          go_wp2
          go_ret
          exact ⟨rfl, by first | exact hb | exact bthen hb (below_alloc _ _)⟩
        obtain ⟨pa, pb, hb⟩ := mv3 hb1 pa pb hb
        clear hb1
        obtain rfl : na = nx := (mo2_len _ _ _).symm.trans px.len
        have hu6 : u ≤ 6 := r2.wide Rb.out
        replace px := px.kto (show 1 + 1 + nb ≤ 8 by omega)
        have e9 := (HR.out.uni r1).2
        have hu0 := r2.2.2.1
        have HRB := Lib.hid r2; clear r2 r1
        obtain ⟨LX, hLX⟩ : ∃ L, mo2 (MD.mul nb (mx MA) (mx MB)) na u = L := ⟨_, rfl⟩
        rw [hLX] at px
        have HRX : Hid (Rt LX na u) := Lib.hid (hLX ▸ mo2_rt hpos.1 hu0)
        have HLX := Lib.hid hLX; clear hLX
        go_wp2_with fail
        with_reducible refine (MRank_any (J := 1) pb.md (by omega) (by omega) (by omega)).mono ?_
        rintro e v16 ⟨hb1, hcase⟩
        obtain ⟨pa, pb, px, hb⟩ := mv4 hb1 pa pb px hb
        clear hb1
        obtain ⟨q5, s5, hr5, hk5, rfl⟩ := hcase.resolve_left (fun h => h.1 _ HRB.out)
        obtain rfl : u = q5 := (hr5.uni HRB.out).2.symm
        have h5 := hk5.le_rows
        have HK5 := Lib.hid hk5; clear hcase hr5 hk5
        go_wp2_with fail
        with_reducible refine (MRank_any (J := 8) px.md (by omega) (by omega) (by omega)).mono ?_
        rintro e v17 ⟨hb1, hcase⟩
        obtain ⟨pa, pb, px, hb⟩ := mv4 hb1 pa pb px hb
        clear hb1
        obtain ⟨q6, s6, hr6, hk6, rfl⟩ := hcase.resolve_left (fun h => h.1 _ HRX.out)
        obtain rfl : u = q6 := (hr6.uni HRX.out).2.symm
        obtain ⟨g1, g2, g3⟩ := rk_mul (m := nb) (by have h := HK.out; rw [e9] at h; exact h) HK5.out HLX.out hk6
        clear hcase hr6 hk6
        have hw1 : IntKind.i64.wrap ((s : Int) + s5) = ((s + s5 : Nat) : Int) := by rw [i64_keep (by omega) (by omega)]; omega
        have hw2 : IntKind.i64.wrap (((s + s5 : Nat) : Int) - nb) = ((s + s5 : Nat) : Int) - nb := by rw [i64_keep (by omega) (by omega)]
        have g4 : (s6 : Int) ≤ (s : Int) := by omega
        have g5 : (s6 : Int) ≤ (s5 : Int) := by omega
        have g6 : ((s + s5 : Nat) : Int) - nb ≤ (s6 : Int) := by omega
        clear pa pb px HK HK5 HLX HRX HRB HR
        go_wp2
        all_goals go_ret
        all_goals first | exact ⟨rfl, hb⟩ | (refine ⟨?_, hb⟩; show Ending.returned (Value.bool (decide ((s : Int) + s5 - nb ≤ s6))) = _; rw [decide_eq_true (show (s : Int) + s5 - nb ≤ s6 by omega)])
end Go.Proofs.YtbpamkpclofnbaaGreat
