/-
  polyz: Divide.
-/
import Derived.Test.YtbpamkpclofnbaaGreatVqr
import Derived.Test.YtbpamkpclofnbaaGreatVpush
import Derived.Test.YtbpamkpclofnbaaGreatMcof
namespace Go.Proofs.YtbpamkpclofnbaaGreat
open Go.RowKit
open MP.Se (nf co)
set_option linter.unusedVariables false
set_option maxRecDepth 100000

/-- What Divide hands back: p by q. -/
def DvP (w : World) (p q : MP.Se) (K : Nat) (e : Ending) (w' : World) : Prop := Below w.heap.size w w' ∧
  ((q = MP.Se.c 0 ∧ e = .returned (.tuple #[.slice none 0 0, .int .i64 2])) ∨ (q ≠ MP.Se.c 0 ∧ ¬ MP.Se.Dv q p ∧ e = .returned (.tuple #[.slice none 0 0, .int .i64 11])) ∨
    (q ≠ MP.Se.c 0 ∧ ∃ L A n c, MP.Se.Nm L ∧ p = q * co L ∧ e = .returned (.tuple #[.slice A n c, .int .i64 0]) ∧ Po w' w.heap.size A n c L K))
/-- What the loop of Divide keeps. -/
def DiR (w : World) (P Q : List Int) (J J2 K g c3 m gt T d : Nat) (A4 : Option Addr) (m2 c4 i : Nat) (wr : World) : Prop :=
  ∃ R t : List Int, Pt wr g c3 m R K ∧ Pw wr gt t K ∧ t.length = T ∧ MP.Se.DvI P Q t R d (T - i) ∧ (∀ j, Si ((co R) j) (J + i * (J2 + 2))) ∧ Pe wr w.heap.size A4 m2 c4 Q J2 ∧ Below w.heap.size w wr
theorem nm_last {Q : List Int} {d : Nat} (h : MP.Se.Nm Q) (hQ : Q.length = d + 1) : (co Q) d ≠ 0 := by
  have := (MP.Se.nm_dg h (by intro e; rw [e] at hQ; simp at hQ)).1
  rwa [hQ, Nat.add_sub_cancel] at this
theorem nf_zero_iff (R : List Int) : (nf R).length = 0 ↔ co R = MP.Se.c 0 := by
  rw [← MP.Se.nf_nil_iff]; exact List.length_eq_zero_iff
theorem si_quo {X F Y : Int} {k : Nat} (h : X = F * Y) (hY : Y ≠ 0) (hX : Si X k) : Si F k := by
  refine Sm.le (show Sm X.natAbs k from hX) ?_
  rw [h, Int.natAbs_mul]
  exact Nat.le_mul_of_pos_right _ (by omega)
/-- What the inner loop of Divide keeps. -/
def DjR (w : World) (R Q t : List Int) (F : Int) (KI J2 K g c3 m gt k : Nat) (gf : Nat) (A8 : Option Addr) (n8 c8 : Nat) (A4 : Option Addr) (m2 c4 j : Nat) (wr : World) : Prop :=
  ∃ Rj : List Int, Pt wr g c3 m Rj K ∧ co Rj = co R - MP.Se.mo k F * co (Q.take j) ∧ Pw wr gt t K ∧ Bx wr gf (ngB F) A8 n8 c8 ∧ Zn wr A8 n8 c8 F KI ∧ Pe wr w.heap.size A4 m2 c4 Q J2 ∧ Below w.heap.size w wr
theorem dj_step {R Rj Q : List Int} {F V Y : Int} {k j : Nat} (h : co Rj = co R - MP.Se.mo k F * co (Q.take j)) (hj : j < Q.length) (hk : k + j < Rj.length) (hV : Rj[k + j] = V) (hY : Q[j] = Y) : co (Rj.set (k + j) (V - F * Y)) = co R - MP.Se.mo k F * co (Q.take (j + 1)) := by
  have e := MP.Se.co_set hk (-(F * Y))
  rw [hV, ← Int.sub_eq_add_neg] at e
  rw [e, h, MP.Se.co_take_succ hj, hY, MP.Se.mul_add, MP.Se.mo_mul]
  refine MP.Se.ext fun i => ?_
  simp only [MP.Se.add_at, MP.Se.sub_at, MP.Se.mo_at]
  split <;> omega
theorem dj_old {R Rj Q : List Int} {F : Int} {k j : Nat} (h : co Rj = co R - MP.Se.mo k F * co (Q.take j)) : (co Rj) (k + j) = (co R) (k + j) := by
  rw [h, MP.Se.sub_at, MP.Se.mo_mul_at, if_neg (by omega), Nat.add_sub_cancel_left, MP.Se.co_take_at, if_neg (by omega)]; simp
set_option maxHeartbeats 8000000 in
theorem PDivide_any {A A2 : Option Addr} {n c n2 c2 J J2 K : Nat} {l l2 : List Int} {w : World} (h : Pd w w.heap.size A n c l J) (h2 : Pd w w.heap.size A2 n2 c2 l2 J2) (hn : n + n2 ≤ 100000) (hK : J + (n + 1) * (J2 + 2) ≤ K) (hK2 : K ≤ 900000) :
    Calls Tryz.prog 60 #[.slice A n c, .slice A2 n2 c2] w (DvP w (co l) (co l2) K) := by
  have hl := h.len
  have hl2 := h2.len
  have hle := MP.Se.nf_len l
  have hle2 := MP.Se.nf_len l2
  replace h := h.pe
  replace h2 := h2.pe
  have hNm := MP.Se.nm_nf l
  have hNm2 := MP.Se.nm_nf l2
  rw [← MP.Se.co_nf l, ← MP.Se.co_nf l2]
  obtain ⟨P, hP⟩ : ∃ N, nf l = N := ⟨_, rfl⟩
  obtain ⟨Q, hQ⟩ : ∃ N, nf l2 = N := ⟨_, rfl⟩
  rw [hP, hQ]
  rw [hP] at hNm hle; rw [hQ] at hNm2 hle2
  have HP := Lib.hid hP; have HQ := Lib.hid hQ; have HN1 := Lib.hid hNm; have HN2 := Lib.hid hNm2
  have hmul : (P.length + 1) * (J2 + 2) ≤ (n + 1) * (J2 + 2) := Nat.mul_le_mul_right _ (by omega)
  have HK : Hid (J + (P.length + 1) * (J2 + 2) ≤ K) := Lib.hid (by omega)
  have hJ1 : J ≤ 900000 := by omega
  have hJ2 : J2 ≤ 900000 := by have : 1 * (J2 + 2) ≤ (n + 1) * (J2 + 2) := Nat.mul_le_mul_right _ (by omega); omega
  have hPb : P.length + Q.length ≤ 100000 := by omega
  clear hP hQ hNm hNm2 hK hmul
  go_enter Tryz.func60, Tryz.ntmps60
  go_wp2_with fail
  with_reducible refine (PNorm_any h.pd (by omega)).mono ?_
  rintro e v1 ⟨A3, m, c3, rfl, p3, hb⟩
  rw [HP.out] at p3
  obtain ⟨h2, p3⟩ := mv2 (Below.refl v1.heap.size v1) (h2.keep hb) p3
  clear h
  go_wp2_with fail
  with_reducible refine (Ptrim_any h2.pd (by omega)).mono ?_
  rintro e v2 ⟨A4, m2, c4, rfl, hm, ht, hb1⟩
  replace h2 := h2.keep hb1; replace p3 := p3.keep hb1
  have h4 : Pe v2 w.heap.size A4 m2 c4 Q J2 := ⟨h2.1, by have := h2.2.trim hm ht; rwa [HQ.out] at this⟩
  replace hb := bthen hb hb1
  clear h2 hm ht hb1
  have hl3 := p3.pd.len; have hl4 := h4.len
  rcases (show m2 = 0 ∨ 0 < m2 by omega) with h02 | h02
  · obtain rfl : Q = [] := List.eq_nil_of_length_eq_zero (by omega)
    subst h02
    clear p3 h4 hl3 hl4
    go_wp2
    go_ret2
    exact ⟨hb, .inl ⟨MP.Se.co_nil, rfl⟩⟩
  have hm20 : ((m2 : Int) == 0) = false := by simp; omega
  obtain ⟨d, hd⟩ : ∃ d, d + 1 = m2 := ⟨m2 - 1, by omega⟩
  have hQd : Hid (Q.length = d + 1) := Lib.hid (by omega)
  have hq0 : Hid (co Q ≠ MP.Se.c 0) := Lib.hid (fun e => nm_last HN2.out hQd.out (by rw [e]; cases d <;> rfl))
  have e1 : IntKind.i64.wrap ((m2 : Int) - 1) = (d : Int) := by rw [i64_keep (by omega) (by omega)]; omega
  have hmb : m ≤ 100000 := by omega
  have hm2b : m + m2 ≤ 100000 := by omega
  rcases (show m ≤ d ∨ d < m by omega) with hmd | hmd
  · obtain ⟨x, hx⟩ : ∃ x : Int, (m : Int) - d = x := ⟨_, rfl⟩
    have e2 : IntKind.i64.wrap ((m : Int) - d) = x := by rw [i64_keep (by omega) (by omega)]; exact hx
    have hx0 : ¬ (0 : Int) < x := by omega
    have hlast := (MP.Se.DvI.first P Q [] d 0 (by omega) MP.Se.co_nil).last hQd.out (nm_last HN2.out hQd.out)
    have HLS := Lib.hid hlast
    have HNF := Lib.hid (nf_zero_iff P)
    obtain ⟨M, hM⟩ : ∃ M, (nf P).length = M := ⟨_, rfl⟩
    have hMl : M ≤ P.length := by rw [← hM]; exact MP.Se.nf_len P
    have HM := Lib.hid hM
    have HTL : Hid (([] : List Int).length = P.length - d) := Lib.hid (by simp; omega)
    obtain ⟨t, ht⟩ : ∃ t : List Int, [] = t := ⟨_, rfl⟩
    rw [ht] at HLS HTL
    have HTT := Lib.hid ht
    replace p3 := p3.kto (K := K) (by have := HK.out; omega)
    clear hlast hM hx hl3 hl4 ht
    go_upto_region 6 with (at_make; refine wp_makeP rfl _ _ rfl 0 K _ _ rfl rfl rfl rfl (by omega) ?_; intro v3 p_t hb1)
    have hpo := p3.keep hb1
    have hgt := hb.size
    replace hb := bthen hb hb1
    have hpt : Po v3 w.heap.size (some ⟨v2.heap.size, 0, none⟩) 0 0 t K := by have := p_t.po hgt; rw [← HTT.out]; exact this
    clear hb1 h4 p3 p_t
    go_wp2_with fail
    go_loopw [34] (fun kv wr => kv = .int .i64 0 ∧ wr = v3) (fun _ _ => 0)
    case atStart => exact ⟨rfl, rfl⟩
    case round =>
      obtain ⟨rfl, rfl⟩ := hrel
      go_wp2_with fail
      with_reducible refine (PDegree_any (J := K) hpo.pd (by omega)).mono ?_
      rintro e v4 ⟨rfl, hb1⟩
      rw [HM.out]
      replace hpt := hpt.keep hb1
      replace hb := bthen hb hb1
      clear hb1 hpo
      rcases Nat.eq_zero_or_pos M with h0 | h0
      · subst h0
        have hz := HNF.out.1 HM.out
        have hres := HLS.out.elim (fun h => h.2) (fun h => absurd hz h.1)
        have hNt := MP.Se.quo_nm HN1.out hQd.out HTL.out hres
        have HR := Lib.hid hres; have HNT := Lib.hid hNt
        clear hz hres hNt HLS HNF HM
        go_wp2
        go_ret2
        exact ⟨hb, .inr (.inr ⟨hq0.out, t, _, _, _, HNT.out, HR.out, rfl, hpt⟩)⟩
      · have hres := HLS.out.elim (fun h => absurd (HM.out.symm.trans (HNF.out.2 h.1)) (by omega)) (fun h => h.2)
        have HR := Lib.hid hres
        have hge : (0 : Int) ≤ (M : Int) - 1 := by omega
        clear hres HLS HNF HM
        go_wp2
        all_goals first | (exfalso; omega) | (go_ret2; exact ⟨hb, .inr (.inl ⟨hq0.out, HR.out, rfl⟩)⟩)
  · obtain ⟨T, hT⟩ : ∃ T, m - d = T := ⟨_, rfl⟩
    have e2 : IntKind.i64.wrap ((m : Int) - d) = (T : Int) := by rw [i64_keep (by omega) (by omega)]; omega
    have hTb : T ≤ 100000 := by omega
    have hT0 : (0 : Int) < (T : Int) := by omega
    have HL3 := Lib.hid hl3; have HL4 := Lib.hid hl4; have HTm := Lib.hid hT
    rcases p3 with ⟨_, h0, _⟩ | ⟨g, L3, rfl, hgw, hc3, hmc, p3, hLP⟩
    · omega
    have hPJ : Hid (∀ j, Si ((co P) j) J) := Lib.hid (fun j => by
      by_cases hj : j < P.length
      · have hj2 : j < L3.length := by have := hmc; omega
        obtain ⟨_, _, _, _, z⟩ := p3.ec hj2
        rw [MP.Se.co_at hj]
        have : P[j] = L3[j] := by simp only [hLP, List.getElem_take]
        rw [this]; exact z.si
      · rw [MP.Se.co_out (by omega)]; exact Si.zero _)
    have hQJ : Hid (∀ j, Si ((co Q) j) J2) := Lib.hid (fun j => by
      by_cases hj : j < Q.length
      · obtain ⟨_, _, _, _, _, _, _, _, _, z⟩ := h4.ec (k := j) (by have := HL4.out; omega)
        rw [MP.Se.co_at hj]; exact z.si
      · rw [MP.Se.co_out (by omega)]; exact Si.zero _)
    have p_g : Pt v2 g c3 m P K := ⟨L3, p3.kto (by have := HK.out; omega), hc3.symm, hmc, hLP⟩
    clear p3 hLP hc3 hl3 hl4 hT
    go_upto_region 6 with (at_make; refine wp_makeP rfl _ _ rfl T K _ _ rfl rfl rfl rfl hTb ?_; intro v3 p_t hb1)
    obtain ⟨gt, hgt2⟩ : ∃ g, v2.heap.size = g := ⟨_, rfl⟩
    rw [hgt2] at p_t
    simp only [hgt2]
    have hgt := hb.size
    have hgg := p_g.lt
    rw [hgt2] at hgt hgg
    obtain ⟨h4, p_g, hb⟩ := mv3 hb1 h4 p_g hb
    have hr0 : DiR w P Q J J2 K g c3 m gt T d A4 m2 c4 0 v3 := ⟨P, _, p_g, p_t, by simp, MP.Se.DvI.first P Q _ d (T - 0) (by have := HTm.out; have := HL3.out; omega) (MP.Se.co_rep _), fun j => (hPJ.out j).mono (by omega), h4, hb⟩
    clear p_t h4 p_g hb hb1 hgt2
    go_wp2_with fail
    go_loopw [34] (fun kv wr => ∃ i : Nat, i ≤ T ∧ kv = .int .i64 (i : Int) ∧ DiR w P Q J J2 K g c3 m gt T d A4 m2 c4 i wr) (fun kv _ => T - (intOf kv).toNat)
    case atStart => exact ⟨0, by omega, rfl, hr0⟩
    case round =>
      clear hr0
      obtain ⟨i, hi, rfl, R, t, p_g, p_t, htl, hI, hS, h4, hb⟩ := hrel
      have hRm := p_g.len
      rcases (show i = T ∨ i < T by omega) with hiT | hiT
      · subst hiT
        rw [Nat.sub_self] at hI
        have hlast := hI.last hQd.out (nm_last HN2.out hQd.out)
        have hpo := p_g.po (B := w.heap.size) hgw
        have hpt := p_t.po (B := w.heap.size) hgt
        rw [htl] at hpt
        have hnf := nf_zero_iff R
        have HLS := Lib.hid hlast; have HNF := Lib.hid hnf
        obtain ⟨M, hM⟩ : ∃ M, (nf R).length = M := ⟨_, rfl⟩
        have hMl : M ≤ R.length := by rw [← hM]; exact MP.Se.nf_len R
        have HM := Lib.hid hM
        have HTL : Hid (t.length = P.length - d) := Lib.hid (by have := HTm.out; have := HL3.out; omega)
        clear hlast hnf hI hS h4 p_g p_t hM htl
        go_wp2_with fail
        with_reducible refine (PDegree_any (J := K) hpo.pd (by omega)).mono ?_
        rintro e v4 ⟨rfl, hb1⟩
        rw [HM.out]
        replace hpt := hpt.keep hb1
        replace hb := bthen hb hb1
        clear hb1 hpo
        rcases Nat.eq_zero_or_pos M with h0 | h0
        · subst h0
          have hz := HNF.out.1 HM.out
          have hres := HLS.out.elim (fun h => h.2) (fun h => absurd hz h.1)
          have hNt := MP.Se.quo_nm HN1.out hQd.out HTL.out hres
          have HR := Lib.hid hres; have HNT := Lib.hid hNt
          clear hz hres hNt HLS HNF HM
          go_wp2
          go_ret2
          exact ⟨hb, .inr (.inr ⟨hq0.out, t, _, _, _, HNT.out, HR.out, rfl, hpt⟩)⟩
        · have hres := HLS.out.elim (fun h => absurd (HM.out.symm.trans (HNF.out.2 h.1)) (by omega)) (fun h => h.2)
          have HR := Lib.hid hres
          have hge : (0 : Int) ≤ (M : Int) - 1 := by omega
          clear hres HLS HNF HM
          go_wp2
          all_goals first | (exfalso; omega) | (go_ret2; exact ⟨hb, .inr (.inl ⟨hq0.out, HR.out, rfl⟩)⟩)
      · obtain ⟨k, hk⟩ : ∃ k, T - i = k + 1 := ⟨T - i - 1, by omega⟩
        rw [hk] at hI
        have hkd : k + d < R.length := by have := HTm.out; omega
        have hkt : k < t.length := by omega
        have hQl := HL4.out
        have hdQ : d < Q.length := by omega
        obtain ⟨A5, n5, c5, x_e, z5⟩ := p_g.ec hkd
        obtain ⟨d4, o4, b6, A6, n6, c6, rfl, hd4, x_f, z6⟩ := h4.ec (k := d) (by omega)
        obtain ⟨X, hX⟩ : ∃ X, R[k + d] = X := ⟨_, rfl⟩
        obtain ⟨Y, hY⟩ : ∃ Y, Q[d] = Y := ⟨_, rfl⟩
        rw [hX] at x_e z5; rw [hY] at z6
        have hXc : (co R) (k + d) = X := by rw [MP.Se.co_at hkd]; exact hX
        have hYc : (co Q) d = Y := by rw [MP.Se.co_at hdQ]; exact hY
        have hY0 : Y ≠ 0 := by rw [← hYc]; exact nm_last HN2.out hQd.out
        obtain ⟨KI, hKI⟩ : ∃ KI, J + i * (J2 + 2) = KI := ⟨_, rfl⟩
        have hKI2 : KI + J2 + 2 ≤ K := by have h1 : (i + 1) * (J2 + 2) ≤ (P.length + 1) * (J2 + 2) := Nat.mul_le_mul_right _ (by have := HTm.out; have := HL3.out; omega); have := HK.out; rw [Nat.add_mul] at h1; omega
        obtain ⟨KD, hKD⟩ : ∃ KD, KI + J2 + 1 = KD := ⟨_, rfl⟩
        rw [hKI] at hS
        have hXs : Si X KI := by rw [← hXc]; exact hS _
        replace z5 := z5.slim hXs
        rw [Nat.add_mul] at x_e
        have hno : Hid (X % Y ≠ 0 → ¬ MP.Se.Dv (co Q) (co P)) := Lib.hid (fun h1 h2 => by
            obtain ⟨u, hu⟩ := hI.no hQd.out (nm_last HN2.out hQd.out) h2
            rw [hXc, hYc] at hu
            rw [hu] at h1
            exact h1 (Int.mul_emod_right _ _))
        have hquo : Hid (X % Y = 0 → X = X / Y * Y) := Lib.hid (fun h1 => by have := Int.emod_add_mul_ediv X Y; rw [h1, Int.zero_add, Int.mul_comm] at this; exact this.symm)
        have HI := Lib.hid hI; have HS := Lib.hid hS; have HXc := Lib.hid hXc; have HYc := Lib.hid hYc; have HKI := Lib.hid hKI; have HRm := Lib.hid hRm; have HKd := Lib.hid hkd; have HKt := Lib.hid hkt; have HTL2 := Lib.hid htl; have HXS := Lib.hid hXs
        obtain ⟨e, he⟩ : ∃ e, k + m2 = e := ⟨_, rfl⟩
        have hid1 : IntKind.i64.wrap ((T : Int) - 1) = ((T - 1 : Nat) : Int) := by rw [i64_keep (by omega) (by omega)]; omega
        have hid2 : IntKind.i64.wrap (((T - 1 : Nat) : Int) - i) = (k : Int) := by rw [i64_keep (by omega) (by omega)]; omega
        have hid3 : IntKind.i64.wrap ((k : Int) + m2) = (e : Int) := by rw [i64_keep (by omega) (by omega)]; omega
        have hke : k ≤ e := by omega
        have hec : e ≤ c3 := by have := HTm.out; omega
        have hek : e - k = m2 := by omega
        have hck : ¬ c3 = k := by have := HTm.out; omega
        have hdm : d < m2 := by omega
        have hkT : k < T := by omega
        have hki : Hid (T - (i + 1) = k) := Lib.hid (by omega)
        have HE := Lib.hid he
        clear hI hS hXc hYc hX hY hKI hRm hkd hkt htl he hk hXs hQl hdQ
        have ltt := p_t.lt
        have q_e := x_e.al
        have q_f := x_f.al
        go_upto_region 11 with fail
        have hv := Below.refl wr.heap.size wr
        have l_e_fa := x_e.lt
        have l_f_fa := x_f.lt
        go_cut [12, 13] (fun s9 t9 wx => BnNew2 wr (X / Y) (X % Y) KD KD s9 t9 wx)
        case first =>
          go_region_held3 (fun w' => w'.cell? ⟨g, k * 2 + d * 2, none⟩ = some (.bool (ngB X)) ∧ w'.cell? ⟨g, k * 2 + d * 2 + 1, none⟩ = some (.slice A5 n5 c5) ∧ w'.cell? ⟨d4, o4 + d * 2, none⟩ = some (.bool b6) ∧ w'.cell? ⟨d4, o4 + d * 2 + 1, none⟩ = some (.slice A6 n6 c6))
            (first | (with_reducible exact ⟨x_e.c0, x_e.c1, x_f.c0, x_f.c1⟩) | (with_reducible exact ⟨(x_e.alloc _).c0, (x_e.alloc _).c1, (x_f.alloc _).c0, (x_f.alloc _).c1⟩) | (with_reducible exact ⟨((x_e.alloc _).alloc _).c0, ((x_e.alloc _).alloc _).c1, ((x_f.alloc _).alloc _).c0, ((x_f.alloc _).alloc _).c1⟩) | (with_reducible exact ⟨(x_e.aside (by omega)).c0, (x_e.aside (by omega)).c1, (x_f.aside (by omega)).c0, (x_f.aside (by omega)).c1⟩) | (with_reducible exact ⟨((x_e.alloc _).aside (by omega)).c0, ((x_e.alloc _).aside (by omega)).c1, ((x_f.alloc _).aside (by omega)).c0, ((x_f.alloc _).aside (by omega)).c1⟩) | (with_reducible exact ⟨((x_e.aside (by omega)).alloc _).c0, ((x_e.aside (by omega)).alloc _).c1, ((x_f.aside (by omega)).alloc _).c0, ((x_f.aside (by omega)).alloc _).c1⟩) | (with_reducible exact ⟨(((x_e.alloc _).alloc _).aside (by omega)).c0, (((x_e.alloc _).alloc _).aside (by omega)).c1, (((x_f.alloc _).alloc _).aside (by omega)).c0, (((x_f.alloc _).alloc _).aside (by omega)).c1⟩) | (with_reducible exact ⟨((x_e.aside (by omega)).aside (by omega)).c0, ((x_e.aside (by omega)).aside (by omega)).c1, ((x_f.aside (by omega)).aside (by omega)).c0, ((x_f.aside (by omega)).aside (by omega)).c1⟩) | (with_reducible exact ⟨(((x_e.alloc _).aside (by omega)).aside (by omega)).c0, (((x_e.alloc _).aside (by omega)).aside (by omega)).c1, (((x_f.alloc _).aside (by omega)).aside (by omega)).c0, (((x_f.alloc _).aside (by omega)).aside (by omega)).c1⟩) | (with_reducible exact ⟨((((x_e.alloc _).alloc _).aside (by omega)).aside (by omega)).c0, ((((x_e.alloc _).alloc _).aside (by omega)).aside (by omega)).c1, ((((x_f.alloc _).alloc _).aside (by omega)).aside (by omega)).c0, ((((x_f.alloc _).alloc _).aside (by omega)).aside (by omega)).c1⟩) | go_keep)
            (first | (go_at_call 115; (with_reducible refine (ZDivMod_any z5.zr.drw z6.drw hY0 KD (by omega) (by omega) (by omega)).mono ?_); rintro e v1 ⟨A8, n8, c8, A9, n9, c9, rfl, z8, z9, hb1⟩; replace hb1 := undrew hb1; (try replace x_n1 := x_n1.keep hb1); (try replace x_n2 := x_n2.keep hb1); replace hv := bthen hv hb1; have hvs_v1 := hv.size; obtain ⟨x_e, x_f, z5, z6, h4, p_g, p_t, hb⟩ := mv8 hb1 x_e x_f z5 z6 h4 p_g p_t hb; clear hb1; replace q_e := x_e.al; replace q_f := x_f.al; (try (have q_n10 := x_n1.c0; have f_n10 := x_n1.fr 0; have q_n11 := x_n1.c1; have f_n11 := x_n1.fr 1; have lt_n1 := x_n1.lt; have y_n1 := x_n1.alloc (.cells #[.bool false, .slice none 0 0] 30); have qy_n10 := y_n1.c0; have fy_n10 := y_n1.fr 0; have qy_n11 := y_n1.c1; have fy_n11 := y_n1.fr 1)); (try (have q_n20 := x_n2.c0; have f_n20 := x_n2.fr 0; have q_n21 := x_n2.c1; have f_n21 := x_n2.fr 1; have lt_n2 := x_n2.lt; have y_n2 := x_n2.alloc (.cells #[.bool false, .slice none 0 0] 30); have qy_n20 := y_n2.c0; have fy_n20 := y_n2.fr 0; have qy_n21 := y_n2.c1; have fy_n21 := y_n2.fr 1))) | (go_at_call 115; (with_reducible refine (ZDivMod_any (z5.zr.keep (below_alloc wr (.cells #[.bool false, .slice none 0 0] 30))).drw (z6.keep (below_alloc wr (.cells #[.bool false, .slice none 0 0] 30))).drw hY0 KD (by omega) (by omega) (by omega)).mono ?_); rintro e v1 ⟨A8, n8, c8, A9, n9, c9, rfl, z8, z9, hb1⟩; replace hb1 := undrew hb1; (first | (have lt_n := x_n1.lt; replace x_n1 := x_n1.keep (bthen (below_alloc wr (.cells #[.bool false, .slice none 0 0] 30)) hb1); have x_n2 := (Bx.new wr false none 0 0).keep hb1) | (have x_n1 := (Bx.new wr false none 0 0).keep hb1)); replace hb1 := bthen (below_alloc wr (.cells #[.bool false, .slice none 0 0] 30)) hb1; replace hv := bthen hv hb1; have hvs_v1 := hv.size; obtain ⟨x_e, x_f, z5, z6, h4, p_g, p_t, hb⟩ := mv8 hb1 x_e x_f z5 z6 h4 p_g p_t hb; clear hb1; replace q_e := x_e.al; replace q_f := x_f.al; (try (have q_n10 := x_n1.c0; have f_n10 := x_n1.fr 0; have q_n11 := x_n1.c1; have f_n11 := x_n1.fr 1; have lt_n1 := x_n1.lt; have y_n1 := x_n1.alloc (.cells #[.bool false, .slice none 0 0] 30); have qy_n10 := y_n1.c0; have fy_n10 := y_n1.fr 0; have qy_n11 := y_n1.c1; have fy_n11 := y_n1.fr 1)); (try (have q_n20 := x_n2.c0; have f_n20 := x_n2.fr 0; have q_n21 := x_n2.c1; have f_n21 := x_n2.fr 1; have lt_n2 := x_n2.lt; have y_n2 := x_n2.alloc (.cells #[.bool false, .slice none 0 0] 30); have qy_n20 := y_n2.c0; have fy_n20 := y_n2.fr 0; have qy_n21 := y_n2.c1; have fy_n21 := y_n2.fr 1))) | (go_at_call 115; (with_reducible refine (ZDivMod_any (z5.zr.keep (below_alloc2 wr (.cells #[.bool false, .slice none 0 0] 30) (.cells #[.bool false, .slice none 0 0] 30))).drw (z6.keep (below_alloc2 wr (.cells #[.bool false, .slice none 0 0] 30) (.cells #[.bool false, .slice none 0 0] 30))).drw hY0 KD (by omega) (by omega) (by omega)).mono ?_); rintro e v1 ⟨A8, n8, c8, A9, n9, c9, rfl, z8, z9, hb1⟩; replace hb1 := undrew hb1; have x_n1 := ((Bx.new wr false none 0 0).alloc (.cells #[.bool false, .slice none 0 0] 30)).keep hb1; have x_n2 := (Bx.at_size (alloc_size wr (.cells #[.bool false, .slice none 0 0] 30)) : Bx ((wr.alloc (.cells #[.bool false, .slice none 0 0] 30)).alloc (.cells #[.bool false, .slice none 0 0] 30)) (wr.heap.size + 1) false none 0 0).keep hb1; replace hb1 := bthen (below_alloc2 wr (.cells #[.bool false, .slice none 0 0] 30) (.cells #[.bool false, .slice none 0 0] 30)) hb1; replace hv := bthen hv hb1; have hvs_v1 := hv.size; obtain ⟨x_e, x_f, z5, z6, h4, p_g, p_t, hb⟩ := mv8 hb1 x_e x_f z5 z6 h4 p_g p_t hb; clear hb1; replace q_e := x_e.al; replace q_f := x_f.al; (try (have q_n10 := x_n1.c0; have f_n10 := x_n1.fr 0; have q_n11 := x_n1.c1; have f_n11 := x_n1.fr 1; have lt_n1 := x_n1.lt; have y_n1 := x_n1.alloc (.cells #[.bool false, .slice none 0 0] 30); have qy_n10 := y_n1.c0; have fy_n10 := y_n1.fr 0; have qy_n11 := y_n1.c1; have fy_n11 := y_n1.fr 1)); (try (have q_n20 := x_n2.c0; have f_n20 := x_n2.fr 0; have q_n21 := x_n2.c1; have f_n21 := x_n2.fr 1; have lt_n2 := x_n2.lt; have y_n2 := x_n2.alloc (.cells #[.bool false, .slice none 0 0] 30); have qy_n20 := y_n2.c0; have fy_n20 := y_n2.fr 0; have qy_n21 := y_n2.c1; have fy_n21 := y_n2.fr 1))))
          all_goals go_wp2_with fail
          all_goals go_meet
          all_goals first | (with_reducible exact BnNew2.ll hv z8 z9) | (with_reducible exact BnNew2.mm hv z8 z9) | (with_reducible exact BnNew2.el hv x_n1 (by omega) z8 z9) | (with_reducible exact BnNew2.le hv x_n1 (by omega) z8 z9) | (with_reducible exact BnNew2.gl hv x_n1 (by omega) z8 z9) | (with_reducible exact BnNew2.lg hv x_n1 (by omega) z8 z9) | (with_reducible exact BnNew2.el hv x_n2 (by omega) z8 z9) | (with_reducible exact BnNew2.le hv x_n2 (by omega) z8 z9) | (with_reducible exact BnNew2.gl hv x_n2 (by omega) z8 z9) | (with_reducible exact BnNew2.lg hv x_n2 (by omega) z8 z9) | (with_reducible exact BnNew2.ee hv x_n1 (by omega) x_n2 (by omega) (by omega) z8 z9) | (with_reducible exact BnNew2.ff hv x_n1 (by omega) x_n2 (by omega) (by omega) z8 z9) | (with_reducible exact BnNew2.ee hv x_n2 (by omega) x_n1 (by omega) (by omega) z8 z9) | (with_reducible exact BnNew2.ff hv x_n2 (by omega) x_n1 (by omega) (by omega) z8 z9)
        case rest =>
          obtain ⟨g2, g3, Ax4, nx4, cx4, Ay4, ny4, cy4, rfl, rfl, ne_fa, x_fa, x_ov, z_fa, z_ov, e_fa, e_ov, hb1⟩ := hcut
          clear hv
          obtain ⟨x_e, x_f, z5, z6, h4, p_g, p_t, hb⟩ := mv8 hb1 x_e x_f z5 z6 h4 p_g p_t hb
          clear hb1
          replace q_e := x_e.al
          replace q_f := x_f.al
          clear q_e q_f
          generalize wc = v5 at *
          have q_e := x_e.al
          have q_f := x_f.al
          have q_fa := x_fa.al
          have q_ov := x_ov.al
          go_wp2_with fail
          with_reducible refine (ZSign_any z_ov.zr (by omega)).mono ?_
          rintro e v6 ⟨rfl, hb1⟩
          obtain ⟨x_e, x_f, x_fa, x_ov, z5, z6, h4, p_g, p_t⟩ := mv9 hb1 x_e x_f x_fa x_ov z5 z6 h4 p_g p_t
          obtain ⟨z_fa, z_ov, hb⟩ := mv3 hb1 z_fa z_ov hb
          clear hb1
          replace q_e := x_e.al
          replace q_f := x_f.al
          replace q_fa := x_fa.al
          replace q_ov := x_ov.al
          rcases Classical.em (X % Y = 0) with hz | hz
          · rw [show sgnI (X % Y) = 0 by rw [hz]; rfl]
            have hXF := hquo.out hz
            obtain ⟨F, hF⟩ : ∃ F, X / Y = F := ⟨_, rfl⟩
            rw [hF] at x_fa z_fa hXF
            replace z_fa := z_fa.slim (si_quo hXF hY0 HXS.out)
            have HXF := Lib.hid hXF
            clear q_ov x_ov z_ov q_e q_f x_e x_f z5 z6 hz hXF hF hquo hno q_fa
            have q_fa := x_fa.al
            obtain ⟨At7, nt7, ct7, x_t, _⟩ := p_t.ec (k := k) HKt.out
            have q_t := x_t.al
            have f_t := And.intro (p_t.fr (k * 2)) (p_t.fr (k * 2 + 1))
            go_upto_region 15 with fail
            clear x_t f_t q_t
            have zK := z_fa.kto (K := K) (by omega)
            clear q_fa
            refine p_t.st (k := k) HKt.out zK fun v8 hs hx => ?_
            obtain ⟨x_fa, h4, p_g, z_fa, hb⟩ := ms5 hs ⟨by omega, by omega, by omega, trivial, by omega⟩ x_fa h4 p_g z_fa hb
            replace p_t := hx; clear hx hs
            have q_fa := x_fa.al
            have hr1 : DjR w R Q (t.set k F) F KI J2 K g c3 m gt k g2 Ax4 nx4 cx4 (some ⟨d4, o4, none⟩) m2 c4 0 v8 := ⟨R, p_g, by rw [List.take_zero, MP.Se.co_nil, MP.Se.mul_zero, MP.Se.sub_eq]; exact (MP.Se.ext fun i => by rw [MP.Se.add_at, MP.Se.neg_at]; cases i <;> simp [MP.Se.c_0, MP.Se.c_at]), p_t, x_fa, z_fa, h4, hb⟩
            clear q_fa
            skip
            clear p_g p_t x_fa z_fa h4 hb
            go_wp2_with fail
            go_loopw [71] (fun kv wr => ∃ j : Nat, j ≤ m2 ∧ kv = .int .i64 (j : Int) ∧ DjR w R Q (t.set k F) F KI J2 K g c3 m gt k g2 Ax4 nx4 cx4 (some ⟨d4, o4, none⟩) m2 c4 j wr) (fun kv _ => m2 - (intOf kv).toNat)
            case atStart => exact ⟨0, by omega, rfl, hr1⟩
            case round =>
              clear hr1
              obtain ⟨j, hj, rfl, Rj, p_g, hRj, p_t, x_fa, z_fa, h4, hb⟩ := hrel
              rcases (show j = m2 ∨ j < m2 by omega) with hjm | hjm
              · subst hjm
                have hR2 : co Rj = co R - MP.Se.mo k F * co Q := by rw [hRj, MP.Se.co_take_all (by rw [HL4.out]; omega)]
                have hf2 : (co R) (k + d) = F * (co Q) d := by rw [HXc.out, HYc.out]; exact HXF.out
                have hI2 := HI.out.step hQd.out HKt.out hf2 hR2
                have hI3 : MP.Se.DvI P Q (t.set k F) Rj d (T - (i + 1)) := by rw [hki.out]; exact hI2
                have hS2 : ∀ a, Si ((co Rj) a) (J + (i + 1) * (J2 + 2)) := fun a => by
                  have e9 : J + (i + 1) * (J2 + 2) = KI + J2 + 1 + 1 := by rw [← HKI.out, Nat.add_mul]; omega
                  rw [hR2, MP.Se.sub_at, MP.Se.mo_mul_at, e9]
                  refine Si.sub ((HS.out a).mono (by omega)) ?_
                  split
                  · exact Si.zero _
                  · exact ((z_fa.si).mul (hQJ.out _)).mono (by omega)
                have hr2 : DiR w P Q J J2 K g c3 m gt T d (some ⟨d4, o4, none⟩) j c4 (i + 1) _ := ⟨Rj, t.set k F, p_g, p_t, by rw [List.length_set]; exact HTL2.out, hI3, hS2, h4, hb⟩
                have HR2 := Lib.hid hr2
                clear hR2 hf2 hI2 hI3 hS2 hr2 hRj p_g p_t x_fa z_fa h4 hb
                go_wp2
                exact ⟨⟨i + 1, by omega, by go_num, HR2.out⟩, by simp [intOf]; omega⟩
              · have hjQ : j < Q.length := by rw [HL4.out]; omega
                have hRjm := p_g.len
                have hkj : k + j < Rj.length := by have := HKd.out; have := HRm.out; omega
                obtain ⟨A11, n11, c11, x_e, z5⟩ := p_g.ec hkj
                obtain ⟨d5, o5, b12, A12, n12, c12, he5, hd5, x_f, z6⟩ := h4.ec hjm
                injection he5 with he5; injection he5 with he51 he52
                subst he51; subst he52
                obtain ⟨V, hV⟩ : ∃ V, Rj[k + j] = V := ⟨_, rfl⟩
                obtain ⟨U, hU⟩ : ∃ U, Q[j] = U := ⟨_, rfl⟩
                have hst := dj_step hRj hjQ hkj hV hU
                have hVs : Si V KI := by rw [← hV, ← MP.Se.co_at hkj, dj_old hRj]; exact HS.out _
                rw [hV] at x_e z5; rw [hU] at z6
                replace z5 := z5.slim hVs
                have HST := Lib.hid hst; have HKJ := Lib.hid hkj
                have x_e0 := x_e
                rw [Nat.add_mul] at x_e
                have hjm2 : j < m2 := hjm
                clear hst hkj hV hU hVs hRj hRjm hjQ x_e0
                have q_fa := x_fa.al
                have q_e := x_e.al
                have q_f := x_f.al
                have f_t := And.intro (p_g.fr (k * 2 + j * 2)) (p_g.fr (k * 2 + j * 2 + 1))
                go_upto_region 18 with fail
                go_region_law (first | (go_simp; go_at_call 84; (with_reducible refine (ZMul_any z_fa.zr.drw z6.drw (KI + J2) (by omega) (by omega)).mono ?_); rintro e v9 ⟨A13, n13, c13, rfl, z13, hb1⟩; replace hb1 := undrew hb1; obtain ⟨x_fa, x_e, x_f, z_fa, h4, p_g, p_t, z5, z6⟩ := mv9 hb1 x_fa x_e x_f z_fa h4 p_g p_t z5 z6; replace hb := Mv.mv hb hb1; clear hb1; replace q_fa := x_fa.al; replace q_e := x_e.al; replace q_f := x_f.al; replace f_t := And.intro (p_g.fr (k * 2 + j * 2)) (p_g.fr (k * 2 + j * 2 + 1))) | (go_simp; go_at_call 116; (with_reducible refine (ZSub_any z5.zr z13.zr K (by omega) (by omega) (by omega)).mono ?_); rintro e v10 ⟨A14, n14, c14, rfl, z14, hb1⟩; obtain ⟨x_fa, x_e, x_f, z_fa, h4, p_g, p_t, z5, z6⟩ := mv9 hb1 x_fa x_e x_f z_fa h4 p_g p_t z5 z6; obtain ⟨z13, hb⟩ := mv2 hb1 z13 hb; clear hb1; replace q_fa := x_fa.al; replace q_e := x_e.al; replace q_f := x_f.al; replace f_t := And.intro (p_g.fr (k * 2 + j * 2)) (p_g.fr (k * 2 + j * 2 + 1))))
                all_goals
                  clear q_e q_f f_t x_e x_f
                  go_wp2
                  refine ⟨⟨j + 1, by omega, by go_num, ?_⟩, by simp [intOf]; omega⟩
                  rw [← Nat.add_mul]
                  clear q_fa
                  refine p_g.st (F := DjR w R Q (t.set k F) F KI J2 K g c3 m gt k g2 Ax4 nx4 cx4 (some ⟨d4, o4, none⟩) m2 c4 (j + 1)) (k := (k + j)) HKJ.out z14 fun v11 hs hx => ?_
                  obtain ⟨x_fa, z_fa, h4, p_t, z5, z6, z13, z14, hb⟩ := ms9 hs ⟨by omega, trivial, by omega, by omega, trivial, trivial, trivial, trivial, by omega⟩ x_fa z_fa h4 p_t z5 z6 z13 z14 hb
                  replace p_g := hx; clear hx hs
                  have q_fa := x_fa.al
                  exact ⟨_, p_g, HST.out, p_t, x_fa, z_fa, h4, hb⟩
          · have hs : (sgnI (X % Y) == 0) = false := by simp [sgnI]; omega
            have HN9 := Lib.hid (hno.out hz)
            generalize sgnI (X % Y) = S at *
            clear hno hz
            go_wp2
            go_ret2
            exact ⟨hb, .inr (.inl ⟨hq0.out, HN9.out, rfl⟩)⟩
end Go.Proofs.YtbpamkpclofnbaaGreat
