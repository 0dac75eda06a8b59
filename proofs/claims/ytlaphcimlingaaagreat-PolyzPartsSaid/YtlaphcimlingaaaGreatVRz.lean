/-
  the document: Divide, Rest.
-/
import Derived.Test.YtlaphcimlingaaaGreatVRy
namespace Go.Proofs.YtlaphcimlingaaaGreat
open Go.RowKit
open MP.Se (nf co)
set_option linter.unusedVariables false
set_option maxRecDepth 100000

theorem rest_no {q u r : MP.Se} {D : Nat} (hq : MP.Se.Dg q D) (hu : MP.Se.Fn u) (hr : MP.Se.Bd r D) (e : r = q * u) : u = MP.Se.c 0 := by
  by_cases h0 : u = MP.Se.c 0
  · exact h0
  · obtain ⟨k, hk⟩ := hu.dg h0
    exact absurd (by rw [← e]; exact hr _ (by omega)) (hq.mul hk).1
theorem dg_ne {q : MP.Se} {D : Nat} (hq : MP.Se.Dg q D) : q ≠ MP.Se.c 0 := fun e => hq.1 (by rw [e]; cases D <;> rfl)
/-- One quotient and one rest. -/
theorem div_uni {q t u r s : MP.Se} {D : Nat} (hq : MP.Se.Dg q D) (ht : MP.Se.Fn t) (hu : MP.Se.Fn u) (hr : MP.Se.Bd r D) (hs : MP.Se.Bd s D) (e : q * t + r = q * u + s) : t = u ∧ r = s := by
  have h1 : s - r = q * (t - u) := by
    rw [MP.Se.sub_eq t u, MP.Se.mul_add, MP.Se.mul_neg]
    exact MP.Se.ext fun i => by have := congrArg (fun p => p i) e; simp only [MP.Se.add_at, MP.Se.sub_at, MP.Se.neg_at] at this ⊢; omega
  have h2 := rest_no hq (ht.sub hu) (hs.sub hr) h1
  constructor
  · exact MP.Se.ext fun i => by have := congrArg (fun p => p i) h2; simp only [MP.Se.sub_at] at this; have h3 : (MP.Se.c 0) i = 0 := by cases i <;> rfl
                                rw [h3] at this; omega
  · rw [h2, MP.Se.mul_zero] at h1
    exact MP.Se.ext fun i => by have := congrArg (fun p => p i) h1; simp only [MP.Se.sub_at] at this; have h3 : (MP.Se.c 0) i = 0 := by cases i <;> rfl
                                rw [h3] at this; omega
/-- A power of the leading coefficient makes it go. -/
theorem pseudo {q : MP.Se} {D : Nat} (hq : MP.Se.Bd q (D + 1)) : ∀ (T : Nat) (p : MP.Se), MP.Se.Bd p (D + T) → ∃ t r, MP.Se.Fn t ∧ MP.Se.Bd r D ∧ MP.Se.sm (q D ^ T) p = q * t + r
  | 0, p, h => ⟨MP.Se.c 0, p, MP.Se.Fn.c 0, h, by rw [Int.pow_zero, MP.Se.sm_one, MP.Se.mul_zero, MP.Se.zero_add]⟩
  | T + 1, p, h => by
    obtain ⟨t, r, ht, hr, e⟩ := pseudo hq T (MP.Se.sm (q D) p - MP.Se.mo (D + T - D) (p (D + T)) * q) (pa_bd hq ((show MP.Se.Bd p (D + T + 1) from h).sm) (by omega) (by rw [MP.Se.sm_at, Int.mul_comm]))
    refine ⟨t + MP.Se.sm (q D ^ T) (MP.Se.mo (D + T - D) (p (D + T))), r, ht.add (Fn_sm (MP.Se.mo_bd _ _)), hr, ?_⟩
    have e2 : MP.Se.sm (q D ^ T) (MP.Se.sm (q D) p - MP.Se.mo (D + T - D) (p (D + T)) * q) = MP.Se.sm (q D ^ (T + 1)) p - MP.Se.sm (q D ^ T) (MP.Se.mo (D + T - D) (p (D + T))) * q := by
      rw [MP.Se.sm_mul]
      exact MP.Se.ext fun i => by simp only [MP.Se.sm_at, MP.Se.sub_at]; rw [Int.mul_sub, Int.pow_succ, Int.mul_assoc]
    rw [e2] at e
    rw [MP.Se.mul_add, MP.Se.mul_comm q (MP.Se.sm _ _)]
    exact MP.Se.ext fun i => by have := congrArg (fun p => p i) e; simp only [MP.Se.add_at, MP.Se.sub_at] at this ⊢; omega
where
  Fn_sm {a : Int} {p : MP.Se} {n : Nat} (h : MP.Se.Bd p n) : MP.Se.Fn (MP.Se.sm a p) := ⟨n, h.sm⟩
theorem DoPower0_any {A : Option Addr} {n c J : Nat} {b : Bool} {X : Int} {w : World} (z : Zr w b A n c X J) :
    Calls Tryz.prog 100 #[.agg #[.bool b, .slice A n c], .int .i64 0] w (OutZ w (X ^ 0) (1 + 0 * J)) := DoPower_any (m := 0) z (by omega) (by omega)
/-- What the document's Divide tells. -/
def DdP (w : World) (p q : MP.Se) (K : Nat) (e : Ending) (w' : World) : Prop := Below w.heap.size w w' ∧
  ((q = MP.Se.c 0 ∧ e = .returned (.tuple #[.slice none 0 0, .int .i64 2])) ∨ (q ≠ MP.Se.c 0 ∧ ¬ MP.Se.Dv q p ∧ e = .returned (.tuple #[.slice none 0 0, .int .i64 11])) ∨
    (q ≠ MP.Se.c 0 ∧ ∃ L A n c, MP.Se.Nm L ∧ p = q * co L ∧ e = .returned (.tuple #[.slice A n c, .int .i64 0]) ∧ Pn w' A n c L K))
/-- What the document's Rest tells. -/
def DrP (w : World) (p q : MP.Se) (d T K : Nat) (e : Ending) (w' : World) : Prop := Below w.heap.size w w' ∧
  ((q = MP.Se.c 0 ∧ e = .returned (.tuple #[.slice none 0 0, .slice none 0 0, .int .i64 2])) ∨
    (q ≠ MP.Se.c 0 ∧ ∃ L A n c L2 A2 n2 c2, MP.Se.Nm L ∧ MP.Se.Nm L2 ∧ MP.Se.sm (q d ^ T) p = q * co L + co L2 ∧ MP.Se.Bd (co L2) d ∧ e = .returned (.tuple #[.slice A n c, .slice A2 n2 c2, .int .i64 0]) ∧ Pn w' A n c L K ∧ Pn w' A2 n2 c2 L2 K))
theorem dg_lst {l : List Int} {D : Nat} (hD : (nf l).length = D + 1) : MP.Se.Dg (co l) D := by
  have := MP.Se.nm_dg (MP.Se.nm_nf l) (fun e => by rw [e] at hD; simp at hD)
  rwa [MP.Se.co_nf, hD, Nat.add_sub_cancel] at this
theorem DoDivide_any {A A2 : Option Addr} {n c n2 c2 J J2 KF : Nat} {l l2 : List Int} {w : World} (h : Pd w w.heap.size A n c l J) (h2 : Pd w w.heap.size A2 n2 c2 l2 J2) (hn : n ≤ 30) (hn2 : n2 ≤ 30) (hKF : J + J2 + 30 * (J2 + 40) ≤ KF) (hK : KF ≤ 5000) :
    Calls Tryz.prog 38 #[.slice A n c, .slice A2 n2 c2] w (DdP w (co l) (co l2) KF) := by
  have hJ : J ≤ 5000 ∧ J2 ≤ 5000 := by omega
  have hb := Below.refl w.heap.size w
  replace h := h.pe; replace h2 := h2.pe
  have HKF := Lib.hid hKF; clear hKF
  by_cases h0 : co l2 = MP.Se.c 0
  · have hD : Hid (((nf l2).length : Int) - 1 = -1) := Lib.hid (by rw [MP.Se.nf_nil_iff.2 h0]; rfl)
    have H0 := Lib.hid h0; clear h0
    go_enter Tryz.func38, Tryz.ntmps38
    go_wp2_with fail
    with_reducible refine (RDegree_any h2.pd (by omega)).mono ?_
    rintro e v1 ⟨rfl, hb1⟩
    obtain ⟨h, h2, hb⟩ := mv3 hb1 h h2 hb
    clear hb1
    rw [hD.out]
    go_wp2
    go_ret2
    exact ⟨hb, .inl ⟨H0.out, rfl⟩⟩
  · obtain ⟨D, hD⟩ : ∃ D, (nf l2).length = D + 1 := ⟨(nf l2).length - 1, by have : (nf l2).length ≠ 0 := fun h => h0 (MP.Se.nf_nil_iff.1 (List.eq_nil_of_length_eq_zero h)); omega⟩
    have HD := Lib.hid hD; have H0 := Lib.hid h0
    have hDI : Hid (((nf l2).length : Int) - 1 = (D : Int)) := Lib.hid (by omega)
    have HQ := Lib.hid (dg_lst hD)
    have hDb : D < 30 := by have := MP.Se.nf_len l2; have := h2.2.len; omega
    have hD0 : ¬ ((D : Int) < 0) := by omega
    clear hD h0
    go_enter Tryz.func38, Tryz.ntmps38
    go_wp2_with fail
    with_reducible refine (RDegree_any h2.pd (by omega)).mono ?_
    rintro e v1 ⟨rfl, hb1⟩
    obtain ⟨h, h2, hb⟩ := mv3 hb1 h h2 hb
    clear hb1
    rw [hDI.out]
    go_wp2_with fail
    with_reducible refine (DoParts_any (KF := KF) h.pd h2.pd HD.out hn hn2 HKF.out hK).mono ?_
    rintro e v2 ⟨hb1, hcase⟩
    obtain ⟨h, h2, hb⟩ := mv3 hb1 h h2 hb
    clear hb1
    rcases hcase with ⟨rfl, hno⟩ | ⟨L, A3, n3, c3, R, A4, n4, c4, rfl, m3, m4, e3, b4, p3, p4⟩
    · skip
      have HN : Hid (¬ MP.Se.Dv (co l2) (co l)) := Lib.hid fun ⟨t, ht, e⟩ => hno t (MP.Se.c 0) ht (MP.Se.Bd.c0 _) (by rw [e, MP.Se.add_zero])
      clear hno
      go_wp2
      go_ret2
      exact ⟨hb, .inr (.inl ⟨H0.out, HN.out, rfl⟩)⟩
    · skip
      have E3 := Lib.hid e3; have M3 := Lib.hid m3; have M4 := Lib.hid m4; have B4 := Lib.hid b4
      have hR4 : Hid (((nf R).length : Int) - 1 = (n4 : Int) - 1) := Lib.hid (by rw [MP.Se.nf_id m4, p4.len])
      clear e3 m3 m4 b4
      go_wp2_with fail
      with_reducible refine (RDegree_any p4.pd (by omega)).mono ?_
      rintro e v3 ⟨rfl, hb1⟩
      obtain ⟨h, h2, p3, p4, hb⟩ := mv5 hb1 h h2 p3 p4 hb
      clear hb1
      rw [hR4.out]
      rcases (show n4 = 0 ∨ 0 < n4 by omega) with h4 | h4
      · skip
        have hend : ¬ ((0 : Int) ≤ (n4 : Int) - 1) := by omega
        have HE : Hid (co l = co l2 * co L) := Lib.hid (by have e := E3.out; rw [List.eq_nil_of_length_eq_zero (p4.len.trans h4), MP.Se.co_nil, MP.Se.add_zero] at e; exact e)
        clear h4
        go_wp2
        go_ret2
        exact ⟨hb, .inr (.inr ⟨H0.out, L, _, _, _, M3.out, HE.out, rfl, p3⟩)⟩
      · skip
        have hgo : (0 : Int) ≤ (n4 : Int) - 1 := by omega
        have HN : Hid (¬ MP.Se.Dv (co l2) (co l)) := Lib.hid fun ⟨t, ht, e⟩ => by
          have e2 := (div_uni HQ.out ht (MP.Se.co_fn L) (MP.Se.Bd.c0 D) B4.out (by rw [MP.Se.add_zero, ← e]; exact E3.out)).2
          have e3 := MP.Se.nm_ext (l := R) (m := []) M4.out (by simp [MP.Se.Nm]) (by rw [← e2, MP.Se.co_nil])
          rw [e3] at p4; have := p4.len; simp at this; omega
        clear h4 p3 p4
        go_wp2
        go_ret2
        exact ⟨hb, .inr (.inl ⟨H0.out, HN.out, rfl⟩)⟩
set_option maxHeartbeats 1000000 in
theorem DoRest_any {A A2 : Option Addr} {n c n2 c2 J J2 KP KF d T : Nat} {l l2 : List Int} {w : World} (h : Pd w w.heap.size A n c l J) (h2 : Pd w w.heap.size A2 n2 c2 l2 J2) (hd0 : (nf l2).length - 1 = d) (hT0 : (nf l).length - d = T) (hn : n ≤ 30) (hn2 : n2 ≤ 30) (hKP : 1 + T * J2 + J ≤ KP) (hKF : KP + J2 + 30 * (J2 + 40) ≤ KF) (hK : KF ≤ 5000) :
    Calls Tryz.prog 40 #[.slice A n c, .slice A2 n2 c2] w (DrP w (co l) (co l2) d T KF) := by
  have hJ : J ≤ 5000 ∧ J2 ≤ 5000 ∧ KP ≤ 5000 := by omega
  have hb := Below.refl w.heap.size w
  have hle := MP.Se.nf_len l; have hl := h.len
  replace h := h.pe; replace h2 := h2.pe
  have HKF := Lib.hid hKF; have HKP := Lib.hid hKP; clear hKF hKP
  by_cases h0 : co l2 = MP.Se.c 0
  · have hD : Hid (((nf l2).length : Int) - 1 = -1) := Lib.hid (by rw [MP.Se.nf_nil_iff.2 h0]; rfl)
    have H0 := Lib.hid h0; clear h0 hd0 hT0 hle hl
    go_enter Tryz.func40, Tryz.ntmps40
    go_wp2_with fail
    with_reducible refine (RDegree_any h2.pd (by omega)).mono ?_
    rintro e v1 ⟨rfl, hb1⟩
    obtain ⟨h, h2, hb⟩ := mv3 hb1 h h2 hb
    clear hb1
    rw [hD.out]
    go_wp2
    go_ret3
    exact ⟨hb, .inl ⟨H0.out, rfl⟩⟩
  · obtain ⟨D, hD⟩ : ∃ D, (nf l2).length = D + 1 := ⟨(nf l2).length - 1, by have : (nf l2).length ≠ 0 := fun h => h0 (MP.Se.nf_nil_iff.1 (List.eq_nil_of_length_eq_zero h)); omega⟩
    have HD := Lib.hid hD; have H0 := Lib.hid h0
    have hDI : Hid (((nf l2).length : Int) - 1 = (D : Int)) := Lib.hid (by omega)
    have HQ := Lib.hid (dg_lst hD)
    have hDb : D < 30 := by have := MP.Se.nf_len l2; have := h2.2.len; omega
    have hD0 : ¬ ((D : Int) < 0) := by omega
    obtain rfl : D = d := by omega
    obtain ⟨M, hM⟩ : ∃ M, (nf l).length = M := ⟨_, rfl⟩
    have hMn : M ≤ n := by omega
    have HM := Lib.hid hM
    have hTM : M - D = T := by omega
    have hTb : T ≤ 30 := by omega
    have HX : Hid (∃ t r, MP.Se.Fn t ∧ MP.Se.Bd r D ∧ MP.Se.sm ((co l2) D ^ T) (co l) = co l2 * t + r) := Lib.hid (pseudo HQ.out.2 T (co l) (by rw [← MP.Se.co_nf l]; exact (MP.Se.co_bd _).le (by omega)))
    have w1 : IntKind.i64.wrap ((M : Int) - 1 - D) = (M : Int) - 1 - D := i64_keep (by omega) (by omega)
    have w2 : IntKind.i64.wrap ((M : Int) - 1 - D + 1) = (M : Int) - D := by rw [i64_keep (by omega) (by omega)]; omega
    obtain ⟨v, hv, hvT⟩ : ∃ v : Int, (M : Int) - D = v ∧ ((v ≤ 0 ∧ T = 0) ∨ (0 < v ∧ v = (T : Int))) := ⟨_, rfl, by omega⟩
    rw [hv] at w2
    have HT := Lib.hid hvT
    clear hD h0 hd0 hT0 hle hl hM hTM hv
    go_enter Tryz.func40, Tryz.ntmps40
    go_wp2_with fail
    with_reducible refine (RDegree_any h2.pd (by omega)).mono ?_
    rintro e v1 ⟨rfl, hb1⟩
    obtain ⟨h, h2, hb⟩ := mv3 hb1 h h2 hb
    clear hb1
    rw [hDI.out]
    go_wp2_with fail
    with_reducible refine (RDegree_any h.pd (by omega)).mono ?_
    rintro e v2 ⟨rfl, hb1⟩
    obtain ⟨h, h2, hb⟩ := mv3 hb1 h h2 hb
    clear hb1
    rw [HM.out]
    go_wp2_with fail
    with_reducible refine (RDegree_any h2.pd (by omega)).mono ?_
    rintro e v3 ⟨rfl, hb1⟩
    obtain ⟨h, h2, hb⟩ := mv3 hb1 h h2 hb
    clear hb1
    rw [hDI.out]
    have hpos : T = 0 → Hid (((0 : Nat) : Int) = (T : Int)) := fun e => Lib.hid (by omega)
    rcases hvT with ⟨v0, hv1⟩ | ⟨v0, rfl⟩
    · skip
      have v1 : ¬ (0 < v) := by omega
      have hT0 : ((0 : Int)) = ((T : Nat) : Int) := by omega
      have HT0 := Lib.hid hT0
      skip
      clear hv1 hT0
      obtain rfl : T = 0 := by have := HT0.out; omega
      go_wp2_with fail
      with_reducible refine (DoLead_any h2.pd HD.out (by omega)).mono ?_
      rintro e v4 ⟨A3, n3, c3, rfl, z3, hb1⟩
      obtain ⟨h, h2, hb⟩ := mv3 hb1 h h2 hb
      clear hb1
      go_wp2_with fail
      with_reducible refine (DoPower0_any z3.zr).mono ?_
      rintro e v5 ⟨A4, n4, c4, rfl, z4, hb1⟩
      obtain ⟨h, h2, z3, hb⟩ := mv4 hb1 h h2 z3 hb
      clear hb1
      obtain ⟨PW, hPW⟩ : ∃ a, (co l2) D ^ 0 = a := ⟨_, rfl⟩
      rw [hPW] at z4 ⊢
      have HPW := Lib.hid hPW; clear hPW
      go_wp2_with fail
      with_reducible refine (DoTimes_any h.pd z4.zr (by have := HKP.out; omega) (by omega)).mono ?_
      rintro e v6 ⟨L5, A5, n5, c5, rfl, m5, hL5, p5, hb1⟩
      obtain ⟨h, h2, z3, z4, hb⟩ := mv5 hb1 h h2 z3 z4 hb
      clear hb1
      have n5b : n5 ≤ 30 := by rw [← p5.len]; exact Nat.le_trans (MP.Se.nm_len m5 (by rw [hL5]; exact (show MP.Se.Bd (co l) M by rw [← HM.out, ← MP.Se.co_nf l]; exact MP.Se.co_bd _).sm)) (by omega)
      have E5 : Hid (co L5 = MP.Se.sm ((co l2) D ^ 0) (co l)) := Lib.hid (by rw [HPW.out]; exact hL5)
      clear hL5 m5
      go_wp2_with fail
      with_reducible refine (DoParts_any (J := KP) (KF := KF) (p5.pd.kto HKP.out) h2.pd HD.out n5b hn2 HKF.out hK).mono ?_
      rintro e v7 ⟨hb1, hcase⟩
      obtain ⟨h, h2, z3, z4, p5, hb⟩ := mv6 hb1 h h2 z3 z4 p5 hb
      clear hb1
      rcases hcase with ⟨rfl, hno⟩ | ⟨L, A6, n6, c6, R, A7, n7, c7, rfl, m6, m7, e6, b7, p6, p7⟩
      · skip
        obtain ⟨t, r, ht, hr, e⟩ := HX.out
        exact absurd (E5.out.trans e) (hno t r ht hr)
      · skip
        have E6 : Hid (MP.Se.sm ((co l2) D ^ 0) (co l) = co l2 * co L + co R) := Lib.hid (E5.out.symm.trans e6)
        have M6 := Lib.hid m6; have M7 := Lib.hid m7; have B7 := Lib.hid b7
        clear e6 m6 m7 b7
        go_wp2
        go_ret3
        exact ⟨hb, .inr ⟨H0.out, L, _, _, _, R, _, _, _, M6.out, M7.out, E6.out, B7.out, rfl, p6, p7⟩⟩
    · skip
      go_wp2_with fail
      with_reducible refine (DoLead_any h2.pd HD.out (by omega)).mono ?_
      rintro e v4 ⟨A3, n3, c3, rfl, z3, hb1⟩
      obtain ⟨h, h2, hb⟩ := mv3 hb1 h h2 hb
      clear hb1
      go_wp2_with fail
      with_reducible refine (DoPower_any (m := T) z3.zr (by omega) (by have := HKP.out; omega)).mono ?_
      rintro e v5 ⟨A4, n4, c4, rfl, z4, hb1⟩
      obtain ⟨h, h2, z3, hb⟩ := mv4 hb1 h h2 z3 hb
      clear hb1
      obtain ⟨PW, hPW⟩ : ∃ a, (co l2) D ^ T = a := ⟨_, rfl⟩
      rw [hPW] at z4 ⊢
      have HPW := Lib.hid hPW; clear hPW
      go_wp2_with fail
      with_reducible refine (DoTimes_any h.pd z4.zr (by have := HKP.out; omega) (by omega)).mono ?_
      rintro e v6 ⟨L5, A5, n5, c5, rfl, m5, hL5, p5, hb1⟩
      obtain ⟨h, h2, z3, z4, hb⟩ := mv5 hb1 h h2 z3 z4 hb
      clear hb1
      have n5b : n5 ≤ 30 := by rw [← p5.len]; exact Nat.le_trans (MP.Se.nm_len m5 (by rw [hL5]; exact (show MP.Se.Bd (co l) M by rw [← HM.out, ← MP.Se.co_nf l]; exact MP.Se.co_bd _).sm)) (by omega)
      have E5 : Hid (co L5 = MP.Se.sm ((co l2) D ^ T) (co l)) := Lib.hid (by rw [HPW.out]; exact hL5)
      clear hL5 m5
      go_wp2_with fail
      with_reducible refine (DoParts_any (J := KP) (KF := KF) (p5.pd.kto HKP.out) h2.pd HD.out n5b hn2 HKF.out hK).mono ?_
      rintro e v7 ⟨hb1, hcase⟩
      obtain ⟨h, h2, z3, z4, p5, hb⟩ := mv6 hb1 h h2 z3 z4 p5 hb
      clear hb1
      rcases hcase with ⟨rfl, hno⟩ | ⟨L, A6, n6, c6, R, A7, n7, c7, rfl, m6, m7, e6, b7, p6, p7⟩
      · skip
        obtain ⟨t, r, ht, hr, e⟩ := HX.out
        exact absurd (E5.out.trans e) (hno t r ht hr)
      · skip
        have E6 : Hid (MP.Se.sm ((co l2) D ^ T) (co l) = co l2 * co L + co R) := Lib.hid (E5.out.symm.trans e6)
        have M6 := Lib.hid m6; have M7 := Lib.hid m7; have B7 := Lib.hid b7
        clear e6 m6 m7 b7
        go_wp2
        go_ret3
        exact ⟨hb, .inr ⟨H0.out, L, _, _, _, R, _, _, _, M6.out, M7.out, E6.out, B7.out, rfl, p6, p7⟩⟩
end Go.Proofs.YtlaphcimlingaaaGreat
