/-
  the document: Put.
-/
import Derived.Test.YtlaphcimlingaaaVRl
import Derived.Test.YtlaphcimlingaaaVRm
namespace Go.Proofs.Ytlaphcimlingaaa
open Go.RowKit
open MP.Se (nf co)
set_option linter.unusedVariables false
set_option maxRecDepth 100000

/-- The powers of a polynomial. -/
def pe (q : MP.Se) : Nat → MP.Se
  | 0 => MP.Se.c 1
  | i + 1 => pe q i * q
/-- The sum of the first terms, each a power of q. -/
def pz (p q : MP.Se) : Nat → MP.Se
  | 0 => MP.Se.c 0
  | i + 1 => pz p q i + MP.Se.sm (p i) (pe q i)
theorem pz_tl (p q : MP.Se) : ∀ n, pz p q (n + 1) = MP.Se.c (p 0) + q * pz (MP.Se.tl p) q n
  | 0 => by
    have e : MP.Se.sm (p 0) (MP.Se.c 1) = MP.Se.c (p 0) := MP.Se.ext fun i => by cases i <;> simp [MP.Se.sm_at, MP.Se.c_0, MP.Se.c_at]
    simp only [pz, pe]
    rw [e, MP.Se.mul_zero, MP.Se.add_comm]
  | n + 1 => by
    rw [pz, pz_tl p q n, pz, pe, MP.Se.mul_add, MP.Se.add_assoc, MP.Se.mul_comm q (MP.Se.sm _ _), MP.Se.sm_mul, MP.Se.mul_comm (pe q n) q]; rfl
theorem pz_cp : ∀ (n : Nat) (p q : MP.Se), pz p q n = MP.Se.cp n p q
  | 0, p, q => rfl
  | n + 1, p, q => by rw [pz_tl, pz_cp n]; rfl
theorem pe_bd {q : MP.Se} (hq : MP.Se.Bd q 2) : ∀ i, MP.Se.Bd (pe q i) (i + 1)
  | 0 => MP.Se.Bd.c 1
  | i + 1 => (MP.Se.mul_bd (pe_bd hq i) hq).1
theorem pz_bd {p q : MP.Se} (hq : MP.Se.Bd q 2) : ∀ i, MP.Se.Bd (pz p q i) i
  | 0 => MP.Se.Bd.c0 0
  | i + 1 => ((pz_bd hq i).le (by omega)).add (pe_bd hq i).sm
theorem Pn.nil {w : World} {A : Option Addr} {c J : Nat} : Pn w A 0 c [] J := ⟨rfl, Nat.zero_le _, by omega, fun h => absurd h (by omega)⟩
theorem Pn.one {w : World} {g n c J : Nat} {X : Int} {A : Option Addr} (x : Bx w g (ngB X) A n c) (z : Zn w A n c X J) : Pn w (some ⟨g, 0, none⟩) 1 1 [X] J :=
  ⟨rfl, Nat.le_refl _, by omega, fun _ => ⟨g, 0, rfl, x.lt, fun k hk => by
    obtain rfl : k = 0 := by simpa using hk
    exact ⟨A, n, c, x.c0, x.c1, z⟩⟩⟩
/-- What the loop of Put keeps. -/
def PtL (w : World) (N0 : Nat) (A : Option Addr) (n c : Nat) (l : List Int) (J : Nat) (A2 : Option Addr) (c2 : Nat) (l2 : List Int) (J2 i : Nat) (s t : Value) (wr : World) : Prop :=
  Pe wr N0 A n c l J ∧ Pe wr N0 A2 2 c2 l2 J2 ∧ (∃ A3 n3 c3 L, s = .slice A3 n3 c3 ∧ Pn wr A3 n3 c3 L (J + 1 + i * (J2 + 16)) ∧ MP.Se.Nm L ∧ co L = pz (co l) (co l2) i) ∧
    (∃ A4 n4 c4 L, t = .slice A4 n4 c4 ∧ Pn wr A4 n4 c4 L (1 + i * (J2 + 15)) ∧ MP.Se.Nm L ∧ co L = pe (co l2) i) ∧ Below w.heap.size w wr
set_option maxHeartbeats 2000000 in
theorem DoPut_any {A A2 : Option Addr} {n c c2 J J2 : Nat} {l l2 : List Int} {w : World} (h : Pd w w.heap.size A n c l J) (h2 : Pd w w.heap.size A2 2 c2 l2 J2) (hn : n ≤ 14) (hJ : J + 1 + 14 * (J2 + 16) ≤ 80000) :
    Calls Try.prog 41 #[.slice A n c, .slice A2 2 c2] w (OutN w (MP.Se.pu (co l) (co l2)) (J + 1 + n * (J2 + 16))) := by
  have hl := h.len; have hl2 := h2.len
  have hle := MP.Se.nf_len l
  obtain ⟨M, hM⟩ : ∃ M, (nf l).length = M := ⟨_, rfl⟩
  have hMn : M ≤ n := by omega
  have hQ : MP.Se.Bd (co l2) 2 := (MP.Se.co_bd l2).le (by omega)
  have HE : Hid (pz (co l) (co l2) M = MP.Se.pu (co l) (co l2)) := Lib.hid (by rw [pz_cp, MP.Se.pu_is (n := M)]; rw [← hM, ← MP.Se.co_nf l]; exact MP.Se.co_bd _)
  have hb := Below.refl w.heap.size w
  replace h := h.pe; replace h2 := h2.pe
  have HL := Lib.hid hl; have HM := Lib.hid hM; have HQ := Lib.hid hQ
  clear hl hM hle hQ hl2
  go_enter Try.func41, Try.ntmps41
  go_upto_region 2 with fail
  refine al1 fun v1 hb1 x_o => ?_
  obtain ⟨h, h2, hb⟩ := mv3 hb1 h h2 hb
  clear hb1
  have pv : Pn v1 (some ⟨w.heap.size, 0, none⟩) 0 0 [] (J + 1 + 0 * (J2 + 16)) := Pn.nil
  clear x_o
  go_wp2_with fail
  with_reducible refine (ROf_any 1 (by omega) (by omega)).mono ?_
  rintro e v1 ⟨A3, n3, c3, rfl, z3, hb1⟩
  obtain ⟨h, h2, pv, hb⟩ := mv4 hb1 h h2 pv hb
  clear hb1
  go_upto_region 3 with fail
  have hx1 := hb.size
  refine al1 fun v3 hb1 x_q => ?_
  replace x_q := Bx.of x_q
  obtain ⟨h, h2, pv, z3, hb⟩ := mv5 hb1 h h2 pv z3 hb
  clear hb1
  have pq : Pn v3 (some ⟨v1.heap.size, 0, none⟩) 1 1 [1] (1 + 0 * (J2 + 15)) := (Pn.one x_q z3).kto (by omega)
  have hr0 : PtL w w.heap.size A n c l J A2 c2 l2 J2 0 (.slice (some ⟨w.heap.size, 0, none⟩) 0 0) (.slice (some ⟨v1.heap.size, 0, none⟩) 1 1) v3 := ⟨h, h2, ⟨_, _, _, [], rfl, pv, by simp [MP.Se.Nm], MP.Se.co_nil⟩, ⟨_, _, _, [1], rfl, pq, nm_dec rfl, by rw [MP.Se.co_cons, MP.Se.co_nil, MP.Se.sh_zero, MP.Se.add_zero]; rfl⟩, hb⟩
  clear h h2 pv pq z3 x_q hb
  go_wp2_with fail
  go_loopw [5, 6, 7] (fun sv tv kv wr => ∃ i : Nat, i ≤ M ∧ kv = .int .i64 (i : Int) ∧ PtL w w.heap.size A n c l J A2 c2 l2 J2 i sv tv wr) (fun _ _ kv _ => M - (intOf kv).toNat)
  case atStart => exact ⟨0, by omega, rfl, hr0⟩
  case round =>
    clear hr0
    obtain ⟨i, hi, rfl, h, h2, ⟨A4, k4, c4, L4, rfl, p4, m4, e4⟩, ⟨A5, k5, c5, L5, rfl, p5, m5, e5⟩, hb⟩ := hrel
    have n4 : k4 ≤ 14 := Nat.le_trans (by rw [← p4.len]; exact MP.Se.nm_len m4 (by rw [e4]; exact pz_bd HQ.out i)) (by omega)
    have n5 : k5 ≤ i + 1 := by rw [← p5.len]; exact MP.Se.nm_len m5 (by rw [e5]; exact pe_bd HQ.out i)
    have E4 := Lib.hid e4; have E5 := Lib.hid e5; clear e4 e5
    have hv : J + 1 + i * (J2 + 16) + 1 ≤ J + 1 + (i + 1) * (J2 + 16) := by rw [Nat.add_mul i 1]; omega
    have hp : 1 + i * (J2 + 15) + J2 + 15 ≤ 1 + (i + 1) * (J2 + 15) := by rw [Nat.add_mul i 1]; omega
    have hpv : J + (1 + i * (J2 + 15)) ≤ J + 1 + i * (J2 + 16) := by have := Nat.mul_le_mul_left i (show J2 + 15 ≤ J2 + 16 by omega); omega
    have him : i * (J2 + 16) ≤ 14 * (J2 + 16) := Nat.mul_le_mul_right _ (by omega)
    have hin9 : i * (J2 + 16) ≤ n * (J2 + 16) := Nat.mul_le_mul_right _ (by omega)
    obtain ⟨KV, hKV⟩ : ∃ K, J + 1 + i * (J2 + 16) = K := ⟨_, rfl⟩
    obtain ⟨KP, hKP⟩ : ∃ K, 1 + i * (J2 + 15) = K := ⟨_, rfl⟩
    obtain ⟨KW, hKW⟩ : ∃ K, J + 1 + (i + 1) * (J2 + 16) = K := ⟨_, rfl⟩
    obtain ⟨KQ, hKQ⟩ : ∃ K, 1 + (i + 1) * (J2 + 15) = K := ⟨_, rfl⟩
    rw [hKV] at p4; rw [hKP] at p5
    have hKK : KV + 1 ≤ KW ∧ KP + J2 + 15 ≤ KQ ∧ J + KP ≤ KV ∧ KV ≤ 80000 := by omega
    have HKV : Hid (KV ≤ J + 1 + n * (J2 + 16)) := Lib.hid (by omega)
    have HKW := Lib.hid hKW; have HKQ := Lib.hid hKQ; clear hv hp hpv him hKV hKP hKW hKQ hin9
    go_wp2_with fail
    with_reducible refine (RDegree_any h.pd (by omega)).mono ?_
    rintro e v2 ⟨rfl, hb1⟩
    obtain ⟨h, h2, p4, p5, hb⟩ := mv5 hb1 h h2 p4 p5 hb
    clear hb1
    rw [HM.out]
    rcases (show M = i ∨ i < M by omega) with him | him
    · skip
      subst him
      have hend : ¬ ((M : Int) ≤ (M : Int) - 1) := by omega
      go_wp2_with fail
      with_reducible refine (DoNorm_any p4.pd (by omega) (by omega)).mono ?_
      rintro e v3 ⟨L6, A6, k6, c6, rfl, m6, hL, p6, hb1⟩
      obtain ⟨h, h2, p4, p5, hb⟩ := mv5 hb1 h h2 p4 p5 hb
      clear hb1
      have E6 := Lib.hid (hL.trans (E4.out.trans HE.out)); clear hL
      go_wp2
      go_ret
      exact ⟨L6, _, _, _, rfl, m6, E6.out, p6.kto HKV.out, hb⟩
    · skip
      have hgo : (i : Int) ≤ (M : Int) - 1 := by omega
      have hin : i < n := by omega
      obtain ⟨d, o, b8, A8, n8, c8, rfl, hd, x_e, z8⟩ := h.ec hin
      rw [← MP.Se.co_at (show i < l.length by rw [HL.out]; exact hin)] at z8
      have q_e := x_e.al
      go_wp2_with fail
      with_reducible refine (DoTimes_any p5.pd z8 (by omega) (by omega)).mono ?_
      rintro e v3 ⟨L6, A6, k6, c6, rfl, m6, hL6, p6, hb1⟩
      obtain ⟨x_e, h, h2, p4, p5, z8, hb⟩ := mv7 hb1 x_e h h2 p4 p5 z8 hb
      clear hb1
      replace q_e := x_e.al
      have n6 : k6 ≤ 15 := Nat.le_trans (by rw [← p6.len]; exact MP.Se.nm_len m6 (by rw [hL6, E5.out]; exact (pe_bd HQ.out i).sm)) (by omega)
      have E6 := Lib.hid hL6; clear hL6
      go_wp2_with fail
      with_reducible refine (DoAdd_any p4.pd (p6.pd.kto (by omega)) (by omega) (by omega) (by omega)).mono ?_
      rintro e v4 ⟨L7, A7, k7, c7, rfl, m7, hL7, p7, hb1⟩
      obtain ⟨x_e, h, h2, p4, p5, z8, p6, hb⟩ := mv8 hb1 x_e h h2 p4 p5 z8 p6 hb
      clear hb1
      replace q_e := x_e.al
      have E7 : Hid (co L7 = pz (co l) (co l2) (i + 1)) := Lib.hid (by rw [hL7, E4.out, E6.out, E5.out]; rfl)
      clear hL7
      go_wp2_with fail
      with_reducible refine (DoMul_any (K := KP + J2 + 15) p5.pd h2.pd (by omega) (by omega) (by omega)).mono ?_
      rintro e v5 ⟨L9, A9, k9, c9, rfl, m9, hL9, p9, hb1⟩
      obtain ⟨x_e, h, h2, p4, p5, z8, p6, p7, hb⟩ := mv9 hb1 x_e h h2 p4 p5 z8 p6 p7 hb
      clear hb1
      replace q_e := x_e.al
      have E9 : Hid (co L9 = pe (co l2) (i + 1)) := Lib.hid (by rw [hL9, E5.out]; rfl)
      clear hL9
      clear x_e q_e z8 p4 p5 p6 m4 m5 m6
      go_wp2
      exact ⟨⟨i + 1, by omega, by go_num, h, h2, ⟨_, _, _, L7, rfl, by rw [HKW.out]; exact p7.kto (by omega), m7, E7.out⟩, ⟨_, _, _, L9, rfl, by rw [HKQ.out]; exact p9.kto (by omega), m9, E9.out⟩, hb⟩, by simp [intOf]; omega⟩
end Go.Proofs.Ytlaphcimlingaaa
