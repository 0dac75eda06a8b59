/-
  the document: parts.
-/
import Derived.Test.YtlaphcimlingaaaGreatVRw
import Derived.Test.YtlaphcimlingaaaGreatVRm
import Derived.Test.YtlaphcimlingaaaGreatPk
import Derived.Test.YtlaphcimlingaaaGreatVqr
namespace Go.Proofs.YtlaphcimlingaaaGreat
open Go.RowKit
open MP.Se (nf co)
set_option linter.unusedVariables false
set_option maxRecDepth 100000

theorem lead_dv {q u r R : MP.Se} {D M : Nat} (hq : MP.Se.Dg q D) (hu : MP.Se.Fn u) (hr : MP.Se.Bd r D) (hR : MP.Se.Dg R M) (hM : D ≤ M) (e : R = q * u + r) : q D ∣ R M := by
  by_cases h0 : u = MP.Se.c 0
  · exact absurd (by rw [e, h0, MP.Se.mul_zero, MP.Se.zero_add]; exact hr M hM) hR.1
  · obtain ⟨k, hk⟩ := hu.dg h0
    have hb := MP.Se.mul_bd hq.2 hk.2
    have h1 : R (D + k) = q D * u k := by rw [e, MP.Se.add_at, hr _ (by omega), hb.2, Int.add_zero]
    have h2 : MP.Se.Dg R (D + k) := ⟨by rw [h1]; exact Int.mul_ne_zero hq.1 hk.1, fun i hi => by rw [e, MP.Se.add_at, hr _ (by omega), hb.1 i (by omega)]; rfl⟩
    rw [hR.uniq h2, h1]
    exact Int.dvd_mul_right _ _
/-- What parts tells: no quotient, or one and what is left. -/
def PaP (w : World) (p q : MP.Se) (D K : Nat) (e : Ending) (w' : World) : Prop := Below w.heap.size w w' ∧
  ((e = .returned (.tuple #[.slice none 0 0, .slice none 0 0, .bool false]) ∧ ∀ t r, MP.Se.Fn t → MP.Se.Bd r D → p ≠ q * t + r) ∨
    (∃ L A n c L2 A2 n2 c2, e = .returned (.tuple #[.slice A n c, .slice A2 n2 c2, .bool true]) ∧ MP.Se.Nm L ∧ MP.Se.Nm L2 ∧ p = q * co L + co L2 ∧ MP.Se.Bd (co L2) D ∧ Pn w' A n c L K ∧ Pn w' A2 n2 c2 L2 K))
def lenV : Value → Nat
  | .slice _ n _ => n
  | _ => 0
/-- What the loop of parts keeps. -/
def PaL (w : World) (N0 : Nat) (p q : MP.Se) (A2 : Option Addr) (n2 c2 : Nat) (l2 : List Int) (J J2 N j : Nat) (s t : Value) (wr : World) : Prop :=
  Pe wr N0 A2 n2 c2 l2 J2 ∧ (∃ A3 n3 c3 L, s = .slice A3 n3 c3 ∧ Pn wr A3 n3 c3 L (J + J2 + j * (J2 + 40)) ∧ MP.Se.Nm L ∧ MP.Se.Bd (co L) N ∧
    ∃ A4 n4 c4 R, t = .slice A4 n4 c4 ∧ Pn wr A4 n4 c4 R (J + J2 + j * (J2 + 40)) ∧ MP.Se.Nm R ∧ p = q * co L + co R ∧ j + n4 ≤ N) ∧ Below w.heap.size w wr
theorem pa_step {p q T R x : MP.Se} (e : p = q * T + R) : p = q * (T + x) + (R - x * q) := by
  rw [e, MP.Se.mul_add, MP.Se.mul_comm x q]
  exact MP.Se.ext fun i => by simp only [MP.Se.add_at, MP.Se.sub_at]; omega
theorem pa_bd {q R : MP.Se} {D M : Nat} {f : Int} (hq : MP.Se.Bd q (D + 1)) (hR : MP.Se.Bd R (M + 1)) (hM : D ≤ M) (e : R M = f * q D) : MP.Se.Bd (R - MP.Se.mo (M - D) f * q) M := fun i hi => by
  rw [MP.Se.sub_at, MP.Se.mo_mul_at, if_neg (by omega)]
  by_cases h : i = M
  · subst h
    rw [e, show i - (i - D) = D by omega]; omega
  · rw [hR i (by omega), hq _ (by omega)]; simp
set_option maxHeartbeats 800000 in
theorem DoParts_any {A A2 : Option Addr} {n c n2 c2 J J2 D KF : Nat} {l l2 : List Int} {w : World} (h : Pd w w.heap.size A n c l J) (h2 : Pd w w.heap.size A2 n2 c2 l2 J2) (hD : (nf l2).length = D + 1) (hn : n ≤ 30) (hn2 : n2 ≤ 30) (hKF : J + J2 + 30 * (J2 + 40) ≤ KF) (hK : KF ≤ 5000) :
    Calls Tryz.prog 98 #[.slice A n c, .slice A2 n2 c2] w (PaP w (co l) (co l2) D KF) := by
  have hl := h.len; have hl2 := h2.len
  have hle := MP.Se.nf_len l; have hle2 := MP.Se.nf_len l2
  obtain ⟨p, hp⟩ : ∃ p, co l = p := ⟨_, rfl⟩
  obtain ⟨q, hq⟩ : ∃ q, co l2 = q := ⟨_, rfl⟩
  obtain ⟨N, hN⟩ : ∃ N, (nf l).length = N := ⟨_, rfl⟩
  have hPB : MP.Se.Bd p N := by rw [← hp, ← hN, ← MP.Se.co_nf l]; exact MP.Se.co_bd _
  have hQD : MP.Se.Dg q D := by
    have := MP.Se.nm_dg (MP.Se.nm_nf l2) (fun e => by rw [e] at hD; simp at hD)
    rwa [MP.Se.co_nf, hD, hq, Nat.add_sub_cancel] at this
  have hNn : N ≤ 30 := by omega
  have hDn : D < 30 := by omega
  have hD2 : Hid (((nf l2).length : Int) - 1 = (D : Int)) := Lib.hid (by omega)
  have hb := Below.refl w.heap.size w
  rw [hp, hq]
  replace h := h.pe; replace h2 := h2.pe
  have HP := Lib.hid hp; have HQ := Lib.hid hq; have HN := Lib.hid hN; have HPB := Lib.hid hPB; have HQD := Lib.hid hQD; have HD := Lib.hid hD
  have HKF0 := Lib.hid hKF
  have hJb : J ≤ 5000 ∧ J2 ≤ 5000 := by omega
  clear hl hl2 hle hle2 hp hq hN hPB hQD hD hKF
  go_enter Tryz.func98, Tryz.ntmps98
  go_upto_region 2 with fail
  refine al1 fun v1 hb1 x_o => ?_
  obtain ⟨h, h2, hb⟩ := mv3 hb1 h h2 hb
  clear hb1
  have pv : Pn v1 (some ⟨w.heap.size, 0, none⟩) 0 0 [] (J + J2 + 0 * (J2 + 40)) := ⟨rfl, Nat.zero_le _, by omega, fun h => absurd h (by omega)⟩
  clear x_o
  go_wp2_with fail
  with_reducible refine (DoNorm_any h.pd (by omega) (by omega)).mono ?_
  rintro e v1 ⟨R0, A4, n4, c4, rfl, m4, hL, p4, hb1⟩
  obtain ⟨h, h2, pv, hb⟩ := mv4 hb1 h h2 pv hb
  clear hb1
  rw [HP.out] at hL
  have n40 : n4 ≤ N := by rw [← p4.len]; exact MP.Se.nm_len m4 (by rw [hL]; exact HPB.out)
  have hr0 : PaL w w.heap.size p q A2 n2 c2 l2 J J2 N 0 (.slice (some ⟨w.heap.size, 0, none⟩) 0 0) (.slice A4 n4 c4) v1 := ⟨h2, ⟨_, _, _, [], rfl, pv, by simp [MP.Se.Nm], by rw [MP.Se.co_nil]; exact MP.Se.Bd.c0 _, _, _, _, R0, rfl, p4.kto (by omega), m4, by rw [hL, MP.Se.co_nil, MP.Se.mul_zero, MP.Se.zero_add], by omega⟩, hb⟩
  clear h h2 pv p4 m4 hL n40 hb
  go_wp2_with fail
  go_loopw [7, 8] (fun sv tv wr => ∃ j : Nat, PaL w w.heap.size p q A2 n2 c2 l2 J J2 N j sv tv wr) (fun _ tv _ => lenV tv)
  case atStart => exact ⟨0, hr0⟩
  case round =>
    clear hr0
    obtain ⟨j, h2, ⟨A3, n3, c3, L, rfl, p3, m3, b3, A4, n4, c4, R, rfl, p4, m4, e4, hj⟩, hb⟩ := hrel
    have hjm : j * (J2 + 40) ≤ 30 * (J2 + 40) := Nat.mul_le_mul_right _ (by omega)
    have hjs : J + J2 + j * (J2 + 40) + (J2 + 40) = J + J2 + (j + 1) * (J2 + 40) := by rw [Nat.add_mul j 1]; omega
    obtain ⟨K0, hK0⟩ : ∃ K, J + J2 + j * (J2 + 40) = K := ⟨_, rfl⟩
    obtain ⟨K1, hK1⟩ : ∃ K, J + J2 + (j + 1) * (J2 + 40) = K := ⟨_, rfl⟩
    rw [hK0] at p3 p4
    have hkk : K0 + J2 + 40 ≤ K1 ∧ J2 ≤ K0 ∧ K0 ≤ 5000 := by have := HKF0.out; omega
    have HKF : Hid (K0 ≤ KF) := Lib.hid (by have := HKF0.out; omega)
    have HK1 := Lib.hid hK1; clear hjm hjs hK0 hK1
    have n3b : n3 ≤ 30 := Nat.le_trans (by rw [← p3.len]; exact MP.Se.nm_len m3 b3) hNn
    have E4 := Lib.hid e4; have B3 := Lib.hid b3; have M3 := Lib.hid m3; have M4 := Lib.hid m4
    have hR4 : Hid (((nf R).length : Int) - 1 = (n4 : Int) - 1) := Lib.hid (by rw [MP.Se.nf_id m4, p4.len])
    clear e4 b3 m3 m4
    go_wp2_with fail
    with_reducible refine (RDegree_any p4.pd (by omega)).mono ?_
    rintro e v2 ⟨rfl, hb1⟩
    obtain ⟨h2, p3, p4, hb⟩ := mv4 hb1 h2 p3 p4 hb
    clear hb1
    rw [hR4.out]
    go_wp2_with fail
    with_reducible refine (RDegree_any h2.pd (by omega)).mono ?_
    rintro e v3 ⟨rfl, hb1⟩
    obtain ⟨h2, p3, p4, hb⟩ := mv4 hb1 h2 p3 p4 hb
    clear hb1
    rw [hD2.out]
    rcases (show n4 ≤ D ∨ D < n4 by omega) with him | him
    · skip
      have hend : ¬ ((D : Int) ≤ (n4 : Int) - 1) := by omega
      have hfb : Hid (MP.Se.Bd (co R) D) := Lib.hid ((MP.Se.co_bd R).le (by rw [p4.len]; exact him))
      go_wp2_with fail
      with_reducible refine (DoNorm_any p3.pd (by omega) (by omega)).mono ?_
      rintro e v4 ⟨L6, A6, k6, c6, rfl, m6, hL, p6, hb1⟩
      obtain ⟨h2, p3, p4, hb⟩ := mv4 hb1 h2 p3 p4 hb
      clear hb1
      have E6 : Hid (p = q * co L6 + co R) := Lib.hid (by rw [hL]; exact E4.out)
      clear hL
      go_wp2
      go_ret3
      exact ⟨hb, .inr ⟨L6, _, _, _, R, _, _, _, rfl, m6, M4.out, E6.out, hfb.out, p6.kto HKF.out, p4.kto HKF.out⟩⟩
    · skip
      have hgo : (D : Int) ≤ (n4 : Int) - 1 := by omega
      obtain ⟨M, rfl⟩ : ∃ M, n4 = M + 1 := ⟨n4 - 1, by omega⟩
      have hMR : (nf R).length = M + 1 := by rw [MP.Se.nf_id M4.out, p4.len]
      have HRD : Hid (MP.Se.Dg (co R) M) := Lib.hid (by have := MP.Se.nm_dg M4.out (fun e => by rw [e] at hMR; simp [nf] at hMR); rwa [p4.len, Nat.add_sub_cancel] at this)
      have hDM : D ≤ M := by omega
      have wM : IntKind.i64.wrap ((M : Int) - D) = ((M - D : Nat) : Int) := by rw [i64_keep (by omega) (by omega)]; omega
      go_wp2_with fail
      with_reducible refine (DoLead_any p4.pd hMR (by omega)).mono ?_
      rintro e v4 ⟨A5, k5, c5, rfl, z5, hb1⟩
      obtain ⟨h2, p3, p4, hb⟩ := mv4 hb1 h2 p3 p4 hb
      clear hb1
      go_wp2_with fail
      with_reducible refine (DoLead_any h2.pd HD.out (by omega)).mono ?_
      rintro e v5 ⟨A6, k6, c6, rfl, z6, hb1⟩
      obtain ⟨h2, p3, p4, z5, hb⟩ := mv5 hb1 h2 p3 p4 z5 hb
      clear hb1
      rw [HQ.out] at z6 ⊢
      have hq0 : q D ≠ 0 := HQD.out.1
      obtain ⟨QD, hQD9⟩ : ∃ a, q D = a := ⟨_, rfl⟩
      obtain ⟨RM, hRM9⟩ : ∃ a, (co R) M = a := ⟨_, rfl⟩
      rw [hQD9] at z6 hq0 ⊢; rw [hRM9] at z5 ⊢
      have HQ9 := Lib.hid hQD9; have HR9 := Lib.hid hRM9; clear hQD9 hRM9
      go_wp2_with fail
      with_reducible refine (RDivModZ_any z5.zr z6.zr hq0 (K0 + 1) (by omega) (by omega) (by omega)).mono ?_
      rintro e v6 ⟨A7, k7, c7, A8, k8, c8, rfl, z7, z8, hb1⟩
      obtain ⟨h2, p3, p4, z5, z6, hb⟩ := mv6 hb1 h2 p3 p4 z5 z6 hb
      clear hb1
      go_upto_region 5 with fail
      have e_f : w.heap.size ≤ v6.heap.size := hb.size
      refine al2 fun v7 hb1 x_f x_t => ?_
      replace x_f := Bx.of x_f; replace x_t := Bx.of x_t
      obtain ⟨h2, p3, p4, z5, z6, z7, z8, hb⟩ := mv8 hb1 h2 p3 p4 z5 z6 z7 z8 hb
      clear hb1
      have q_f := x_f.al
      have q_t := x_t.al
      go_wp2_with fail
      with_reducible refine (Rzero_any z8.zr (by omega)).mono ?_
      rintro e v8 ⟨rfl, hb1⟩
      obtain ⟨x_f, x_t, h2, p3, p4, z5, z6, z7, z8⟩ := mv9 hb1 x_f x_t h2 p3 p4 z5 z6 z7 z8
      replace hb := Mv.mv hb hb1
      clear hb1
      replace q_f := x_f.al
      replace q_t := x_t.al
      obtain ⟨W, hW⟩ : ∃ a, RM % QD = a := ⟨_, rfl⟩
      obtain ⟨f, hf⟩ : ∃ a, RM / QD = a := ⟨_, rfl⟩
      rw [hW] at z8 x_t q_t ⊢
      rw [hf] at z7 x_f q_f
      have HW := Lib.hid hW; have HF := Lib.hid hf; clear hW hf
      rcases Classical.em (W = 0) with hX | hX
      · skip
        have HFE : Hid (RM = f * QD) := Lib.hid (by have := Int.emod_add_ediv_mul RM QD; rw [HW.out, HF.out, hX] at this; omega)
        rw [eqB_of hX]
        clear hX z5 z6 z8 x_t q_t
        go_upto_region 7 with fail
        go_region_held3 (fun w' => w'.cell? ⟨v6.heap.size, 0, none⟩ = some (.bool (ngB f)) ∧ w'.cell? ⟨v6.heap.size, 1, none⟩ = some (.slice A7 k7 c7))
          (first | (with_reducible exact ⟨x_f.c0, x_f.c1⟩) | go_keep)
          (first | (go_at_call 23; (with_reducible refine (RDegree_any p4.pd.drw (by omega)).mono ?_); rintro e v9 ⟨rfl, hb1⟩; replace hb1 := undrew hb1; obtain ⟨x_f, h2, p3, p4, z7, hb⟩ := mv6 hb1 x_f h2 p3 p4 z7 hb; clear hb1; replace q_f := x_f.al; rw [hR4.out]) | (go_at_call 23; (with_reducible refine (RDegree_any h2.pd (by omega)).mono ?_); rintro e v10 ⟨rfl, hb1⟩; obtain ⟨x_f, h2, p3, p4, z7, hb⟩ := mv6 hb1 x_f h2 p3 p4 z7 hb; clear hb1; replace q_f := x_f.al; rw [hD2.out]) | (go_at_call 147; (with_reducible refine (DoTerm_any (s := M - D) z7 (by omega)).mono ?_); rintro e v11 ⟨A9, c9, rfl, p9, hb1⟩; obtain ⟨x_f, h2, p3, p4, z7, hb⟩ := mv6 hb1 x_f h2 p3 p4 z7 hb; clear hb1; replace q_f := x_f.al))
        have E9 := Lib.hid (co_term (M - D) f)
        have hl9 := p9.len
        generalize List.replicate (M - D) (0 : Int) ++ [f] = X at *
        go_wp2_with fail
        with_reducible refine (DoAdd_any (p3.pd.kto (show K0 ≤ K0 + 1 + 1 by omega)) p9.pd (by omega) (by omega) (by omega)).mono ?_
        rintro e v12 ⟨L10, A10, k10, c10, rfl, m10, hL10, p10, hb1⟩
        obtain ⟨x_f, h2, p3, p4, z7, p9, hb⟩ := mv7 hb1 x_f h2 p3 p4 z7 p9 hb
        clear hb1
        replace q_f := x_f.al
        have E10 := Lib.hid hL10; clear hL10
        go_wp2_with fail
        with_reducible refine (DoMul_any (K := K0 + 1 + 1 + J2 + (M - D + 1)) p9.pd h2.pd (by omega) (by omega) (by omega)).mono ?_
        rintro e v13 ⟨L11, A11, k11, c11, rfl, m11, hL11, p11, hb1⟩
        obtain ⟨x_f, h2, p3, p4, z7, p9, p10, hb⟩ := mv8 hb1 x_f h2 p3 p4 z7 p9 p10 hb
        clear hb1
        replace q_f := x_f.al
        rw [HQ.out] at hL11
        have E11 := Lib.hid hL11; clear hL11
        have k11b : k11 ≤ 61 := Nat.le_trans (by rw [← p11.len]; exact MP.Se.nm_len m11 (by rw [E11.out]; exact (MP.Se.mul_bd ((MP.Se.co_bd X).le (show X.length ≤ 30 + 1 by omega)) (HQD.out.2.le (show D + 1 ≤ 30 + 1 by omega))).1)) (by omega)
        go_wp2_with fail
        with_reducible refine (DoSub_any (K := K0 + 1 + 1 + J2 + 32) p4.pd p11.pd (by omega) (by omega) (by omega) (by omega) (by omega)).mono ?_
        rintro e v14 ⟨L12, A12, k12, c12, rfl, m12, hL12, p12, hb1⟩
        obtain ⟨x_f, h2, p3, p4, z7, p9, p10, p11, hb⟩ := mv9 hb1 x_f h2 p3 p4 z7 p9 p10 p11 hb
        clear hb1
        replace q_f := x_f.al
        have E12 := Lib.hid hL12; clear hL12
        have hB12 : MP.Se.Bd (co L12) M := by rw [E12.out, E11.out, E9.out]; exact pa_bd HQD.out.2 HRD.out.2 hDM (by rw [HQ9.out, HR9.out]; exact HFE.out)
        have k12b : k12 ≤ M := by rw [← p12.len]; exact MP.Se.nm_len m12 hB12
        have HB12 := Lib.hid hB12; clear hB12
        have E13 : Hid (p = q * co L10 + co L12) := Lib.hid (by rw [E12.out, E11.out, E10.out]; exact pa_step E4.out)
        have B10 : Hid (MP.Se.Bd (co L10) N) := Lib.hid (by rw [E10.out]; exact B3.out.add (by rw [E9.out]; exact (MP.Se.mo_bd _ _).le (by omega)))
        clear p3 p4 p9 p11 z7 m11 hl9
        go_wp2
        refine ⟨⟨j + 1, h2, ⟨_, _, _, L10, rfl, by rw [HK1.out]; exact p10.kto (by omega), m10, B10.out, _, _, _, L12, rfl, by rw [HK1.out]; exact p12.kto (by omega), m12, E13.out, by omega⟩, hb⟩, by show k12 < M + 1; omega⟩
      · skip
        have HNO : Hid (∀ t r, MP.Se.Fn t → MP.Se.Bd r D → p ≠ q * t + r) := Lib.hid fun t r ht hr e => hX (by rw [← HW.out]; refine Int.emod_eq_zero_of_dvd ?_; rw [← HQ9.out, ← HR9.out]; exact lead_dv HQD.out (ht.sub (MP.Se.co_fn L)) hr HRD.out hDM (by have := E4.out; rw [e] at this; rw [MP.Se.sub_eq, MP.Se.mul_add, MP.Se.mul_neg]; exact MP.Se.ext fun i => by have := congrArg (fun s => s i) this; simp only [MP.Se.add_at, MP.Se.neg_at] at this ⊢; omega))
        rw [show eqB W 0 = false by simp [eqB, hX]]
        clear hX z5 z6 z7 z8 p3 p4
        go_wp2
        go_ret3
        exact ⟨hb, .inl ⟨rfl, HNO.out⟩⟩
end Go.Proofs.YtlaphcimlingaaaGreat
