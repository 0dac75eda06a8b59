/-
  The law ZedBack, as a call.
-/
import Derived.Test.YthnffjgbglncbaaZshown
import Derived.Test.YthnffjgbglncbaaZparse
namespace Go.Proofs.Ythnffjgbglncbaa
open Go.RowKit
set_option linter.unusedVariables false

theorem mask_i64b (x : Int) (k : Nat) (hk : k ≤ 62) : bits .and .i64 x (2 ^ k - 1) = x % 2 ^ k := by
  have hm : ((2 : Int) ^ k - 1) = ((2 ^ k - 1 : Nat) : Int) := by
    rw [Int.natCast_sub (Nat.two_pow_pos k)]; simp
  have hp : 2 ^ k ≤ 2 ^ 62 := Nat.pow_le_pow_right (by omega) hk
  have hb : (2 ^ k - 1) % 2 ^ 64 = 2 ^ k - 1 := Nat.mod_eq_of_lt (by omega)
  show IntKind.i64.wrap (((BitVec.ofInt 64 x &&& BitVec.ofInt 64 (2 ^ k - 1)).toNat : Nat) : Int) = _
  rw [hm, BitVec.ofInt_natCast, BitVec.toNat_and, BitVec.toNat_ofNat, hb, Nat.and_two_pow_sub_one_eq_mod, BitVec.toNat_ofInt]
  have e1 : ((x % ((2 ^ 64 : Nat) : Int)).toNat % 2 ^ k : Nat) = (x % 2 ^ k).toNat := by
    have h0 : 0 ≤ x % ((2 ^ 64 : Nat) : Int) := Int.emod_nonneg _ (by decide)
    have h1 : (0 : Int) < 2 ^ k := by exact_mod_cast Nat.two_pow_pos k
    have h2 : 0 ≤ x % (2 : Int) ^ k := Int.emod_nonneg _ (by omega)
    apply Int.ofNat.inj
    show (((x % ((2 ^ 64 : Nat) : Int)).toNat % 2 ^ k : Nat) : Int) = ((x % 2 ^ k).toNat : Int)
    rw [Int.natCast_emod, Int.toNat_of_nonneg h0, Int.toNat_of_nonneg h2]
    have h3 : ((2 ^ 64 : Nat) : Int) = 2 ^ k * 2 ^ (64 - k) := by
      rw [← Int.pow_add, show k + (64 - k) = 64 by omega]; simp
    rw [h3, Int.natCast_pow]
    exact Int.emod_emod_of_dvd x (Int.dvd_mul_right _ _)
  rw [e1]
  have h1 : (0 : Int) < 2 ^ k := by exact_mod_cast Nat.two_pow_pos k
  have h2 : 0 ≤ x % (2 : Int) ^ k := Int.emod_nonneg _ (by omega)
  have h3 : x % (2 : Int) ^ k < 2 ^ k := Int.emod_lt_of_pos _ h1
  have h4 : (2 : Int) ^ k ≤ 2 ^ 62 := by exact_mod_cast hp
  rw [Int.toNat_of_nonneg h2, IntKind.wrap_i64]
  have h5 : (2 : Int) ^ 62 = 4611686018427387904 := by decide
  generalize x % (2 : Int) ^ k = y at *
  omega
theorem mask_15 (x : Int) : ∃ s : Nat, bits .and .i64 x 15 = (s : Int) ∧ s ≤ 15 := by
  have h := mask_i64b x 4 (by omega)
  have e : ((2 : Int) ^ 4 - 1) = 15 := by decide
  have e2 : (2 : Int) ^ 4 = 16 := by decide
  rw [e, e2] at h
  exact ⟨(x % 16).toNat, by rw [h]; omega, by omega⟩
theorem decL_len {N k : Nat} (h : N < 10 ^ k) (hk : 1 ≤ k) : (decL N).length ≤ k := by
  induction k generalizing N with
  | zero => omega
  | succ k ih =>
    by_cases h10 : N < 10
    · rw [decL_small h10]; simp
    · rw [decL_big (by omega), List.length_append]
      have hk1 : 1 ≤ k := by
        rcases Nat.eq_zero_or_pos k with h0 | h0
        · subst h0; simp at h; omega
        · exact h0
      have := ih (N := N / 10) (by rw [Nat.div_lt_iff_lt_mul (by omega), ← Nat.pow_succ]; exact h) hk1
      simp; omega
theorem six_len {N : Nat} (h : Sm N 6) : (decL N).length ≤ 120 := by
  refine decL_len (Nat.lt_of_lt_of_le h ?_) (by omega)
  have : Wd ^ 6 ≤ (10 ^ 20) ^ 6 := Nat.pow_le_pow_left (by rw [Wd_eq]; omega) 6
  rwa [← Nat.pow_mul] at this
theorem no_sign {l : List UInt8} (h : ∀ c ∈ l, isD c = true) : sgB l = false ∧ sgT l = l := by
  have h1 : sgB l = false := by
    unfold sgB
    cases l with
    | nil => rfl
    | cons x l =>
      have := h x (by simp)
      unfold isD at this
      have := of_decide_eq_true this
      simp
      intro he
      subst he
      have e : (45 : UInt8).toNat = 45 := rfl
      omega
  exact ⟨h1, by unfold sgT; rw [if_neg (by rw [h1]; simp)]⟩
theorem with_sign (l : List UInt8) : sgB (45 :: l) = true ∧ sgT (45 :: l) = l := ⟨rfl, rfl⟩
theorem okD_of {l : List UInt8} (h : ∀ c ∈ l, isD c = true) (hl : 0 < l.length) : okD l = true := by
  unfold okD
  rw [Bool.and_eq_true, List.all_eq_true]
  exact ⟨by cases l with | nil => simp at hl | cons => rfl, h⟩
theorem rep_digits (k N : Nat) : ∀ c ∈ List.replicate k 48 ++ decL N, isD c = true := fun c hc => by
  rw [List.mem_append] at hc
  rcases hc with hc | hc
  · rw [List.eq_of_mem_replicate hc]; rfl
  · exact decL_digits N c hc
theorem add_text {c : UInt8} {s : ByteArray} {l : List UInt8} (h : s = ⟨l.toArray⟩) : (⟨#[c]⟩ : ByteArray) ++ s = ⟨(c :: l).toArray⟩ := by
  apply bytes_ext
  subst h
  simp [ByteArray.data_append]
theorem bytes_list {s : ByteArray} {l : List UInt8} (h : s = ⟨l.toArray⟩) : s.data.toList = l ∧ s.size = l.length := by
  subst h; exact ⟨rfl, by simp [ByteArray.size]⟩

set_option maxRecDepth 100000 in
set_option maxHeartbeats 16000000 in
theorem ZedBack_any {b : Bool} {A : Option Addr} {n c : Nat} {l : List Int} {w : World} (h : Rd w w.heap.size A n c l) {x : Int} (_hx : -9223372036854775808 ≤ x ∧ x ≤ 9223372036854775807) :
    Calls Try.prog 9 #[.agg #[.bool b, .slice A n c], .int .i64 x] w fun e w' => e = .returned (.bool true) ∧ Below w.heap.size w w' := by
  obtain ⟨K, hKx, hK⟩ := mask_15 x
  go_enter Try.func9, Try.ntmps9
  go_wp2_with fail
  obtain ⟨hb, x_a⟩ := box1 w b A n c
  generalize w.alloc (.cells #[.bool b, .slice A n c] 24) = v1 at *
  replace h := h.go hb
  have q_a0 := x_a.c0; have q_a1 := x_a.c1; have f_a0 := x_a.fr 0; have f_a1 := x_a.fr 1
  go_wp2_with fail
  with_reducible refine (Zshown_any _).mono ?_
  rintro e v2 ⟨rfl, hb1⟩
  replace x_a := x_a.keep hb1
  replace h := h.go hb1
  replace hb := bthen hb hb1
  clear hb1
  replace q_a0 := x_a.c0; replace q_a1 := x_a.c1; replace f_a0 := x_a.fr 0; replace f_a1 := x_a.fr 1
  go_wp2_with fail
  with_reducible refine (Zcut_at h 6 6 rfl (by omega)).mono ?_
  rintro e v3 ⟨Aa_, na_, ca_, rfl, pa, ka, hb1⟩
  replace x_a := x_a.keep hb1
  replace h := h.go hb1
  replace hb := bthen hb hb1
  clear hb1
  replace q_a0 := x_a.c0; replace q_a1 := x_a.c1; replace f_a0 := x_a.fr 0; replace f_a1 := x_a.fr 1
  obtain ⟨A, za⟩ : ∃ X, Zr _ b Aa_ na_ ca_ X 6 := ⟨_, _, pa, rfl, ka⟩
  clear pa ka
  clear h
  go_wp2_with fail
  replace za := za.put (b' := b) (A' := Aa_) (n' := na_) (c' := ca_) x_a
  replace hb := put_below (g := w.heap.size) hb (by omega) (.bool b) (.slice Aa_ na_ ca_)
  replace x_a := x_a.put b Aa_ na_ ca_
  clear q_a0 q_a1 f_a0 f_a1
  generalize (v3.setCell ⟨w.heap.size, 0, none⟩ (.bool b)).setCell ⟨w.heap.size, 1, none⟩ (.slice Aa_ na_ ca_) = v4 at *
  have q_a0 := x_a.c0; have q_a1 := x_a.c1; have f_a0 := x_a.fr 0; have f_a1 := x_a.fr 1
  with_reducible refine (ZAbs_any za 6 (by omega)).mono ?_
  rintro e v5 ⟨A4, n4, c4, rfl, s1, hb1⟩
  replace x_a := x_a.keep hb1
  replace za := za.keep hb1
  replace hb := bthen hb hb1
  clear hb1
  replace q_a0 := x_a.c0; replace q_a1 := x_a.c1; replace f_a0 := x_a.fr 0; replace f_a1 := x_a.fr 1
  go_wp2_with fail
  with_reducible refine (ZText_any s1.zr (by omega)).mono ?_
  rintro e v6 ⟨rfl, hb1⟩
  replace x_a := x_a.keep hb1
  replace za := za.keep hb1
  replace s1 := s1.keep hb1
  replace hb := bthen hb hb1
  clear hb1
  replace q_a0 := x_a.c0; replace q_a1 := x_a.c1; replace f_a0 := x_a.fr 0; replace f_a1 := x_a.fr 1
  rw [show txL (A.natAbs : Int) = decL A.natAbs by unfold txL; rw [if_neg (by omega)]; rfl]
  clear s1
  have hdl := six_len za.si
  have HDL := Lib.hid hdl; clear hdl
  go_wp2_with fail
  go_loop [6, 7] (fun sv i => ∃ k : Nat, k ≤ K ∧ i = .int .i64 k ∧ sv = .string ⟨(List.replicate k 48 ++ decL A.natAbs).toArray⟩) (fun _ i => K - (intOf i).toNat)
  case atStart => exact ⟨0, Nat.zero_le _, rfl, by simp⟩
  case round =>
    obtain ⟨k, hk, rfl, rfl⟩ := hrel
    obtain ⟨s, hs⟩ : ∃ s : ByteArray, s = ⟨(List.replicate k 48 ++ decL A.natAbs).toArray⟩ := ⟨_, rfl⟩
    rw [← hs]
    have hss0 : s.size ≤ 200 := by rw [(bytes_list hs).2, List.length_append, List.length_replicate]; have := HDL.out; omega
    by_cases hkK : k < K
    · have hst := add_text (c := 48) hs
      have HST := Lib.hid hst
      clear hst hs
      go_wp2
      go_round
      case rel => exact ⟨k + 1, by omega, by go_num, by rw [HST.out]; rfl⟩
      case measure => simp [intOf]; omega
    · obtain rfl : K = k := by omega
      obtain ⟨hsl, hsz⟩ := bytes_list hs
      have hrd := rep_digits K A.natAbs
      have hrl : (List.replicate K (48 : UInt8) ++ decL A.natAbs).length ≤ 135 := by have := HDL.out; rw [List.length_append, List.length_replicate]; omega
      have hrp : 0 < (List.replicate K (48 : UInt8) ++ decL A.natAbs).length := by have := decL_pos A.natAbs; rw [List.length_append]; omega
      have hdv : dv (List.replicate K 48 ++ decL A.natAbs) = A.natAbs := by rw [dv_zeros, dv_decL]
      have hss : s.size ≤ 135 := by omega
      have hbs := sgnI_is A
      by_cases hA : A < 0
      · have hsg := sgnI_lt0.2 hA
        obtain ⟨s2, hs2⟩ : ∃ s2, (⟨#[45]⟩ : ByteArray) ++ s = s2 := ⟨_, rfl⟩
        have hs2e := (hs2.symm.trans (add_text (c := 45) hs))
        obtain ⟨h2l, h2z⟩ := bytes_list hs2e
        have h2s : s2.size ≤ 1000 := by rw [h2z, List.length_cons]; omega
        have hok : okD (sgT s2.data.toList) = true := by rw [h2l, (with_sign _).2]; exact okD_of hrd hrp
        have hval : zi (sgB s2.data.toList) (dv (sgT s2.data.toList)) = A := by rw [h2l, (with_sign _).1, (with_sign _).2, hdv, zi_true]; omega
        have HOK := Lib.hid hok; have HVAL := Lib.hid hval; clear hok hval hsl hsz hrd hrl hrp hdv hA hs hs2e h2l h2z
        generalize hSA : sgnI A = SA at *
        have HSA := Lib.hid hSA; clear hSA
        go_wp2_with fail
        with_reducible refine (ZSign_any za (by omega)).mono ?_
        rintro e v7 ⟨rfl, hb1⟩
        replace x_a := x_a.keep hb1
        replace za := za.keep hb1
        replace hb := bthen hb hb1
        clear hb1
        replace q_a0 := x_a.c0; replace q_a1 := x_a.c1; replace f_a0 := x_a.fr 0; replace f_a1 := x_a.fr 1
        rw [HSA.out]
        go_wp2_with fail
        with_reducible refine (ZParse_yes s2 h2s HOK.out).mono ?_
        rintro e v8 ⟨A5, n5, c5, rfl, z_x, hb1⟩
        replace x_a := x_a.keep hb1
        replace za := za.keep hb1
        replace hb := bthen hb hb1
        clear hb1
        replace q_a0 := x_a.c0; replace q_a1 := x_a.c1; replace f_a0 := x_a.fr 0; replace f_a1 := x_a.fr 1
        rw [HVAL.out] at z_x ⊢
        have y_a := (x_a.alloc (.cells #[.bool (ngB A), .slice A5 n5 c5] 24)); have yq_a0 := y_a.c0; have yq_a1 := y_a.c1
        go_wp2_with fail
        clear y_a yq_a0 yq_a1
        have hb1 := below_alloc v8 (.cells #[.bool (ngB A), .slice A5 n5 c5] 24)
        have l_a_x := x_a.lt
        have x_x := Bx.new v8 (ngB A) A5 n5 c5
        have e_x : w.heap.size ≤ v8.heap.size := hb.size
        replace x_a := x_a.keep hb1
        replace za := za.keep hb1
        replace z_x := z_x.keep hb1
        replace hb := bthen hb hb1
        clear hb1
        replace q_a0 := x_a.c0; replace q_a1 := x_a.c1; replace f_a0 := x_a.fr 0; replace f_a1 := x_a.fr 1
        clear q_a0 q_a1 f_a0 f_a1
        generalize v8.alloc (.cells #[.bool (ngB A), .slice A5 n5 c5] 24) = v9 at *
        have q_a0 := x_a.c0; have q_a1 := x_a.c1; have f_a0 := x_a.fr 0; have f_a1 := x_a.fr 1
        have q_x0 := x_x.c0; have q_x1 := x_x.c1; have f_x0 := x_x.fr 0; have f_x1 := x_x.fr 1
        skip
        with_reducible refine (ZSame_any z_x.zr za (by omega) (by omega)).mono ?_
        rintro e v10 ⟨rfl, hb1⟩
        replace x_a := x_a.keep hb1
        replace x_x := x_x.keep hb1
        replace za := za.keep hb1
        replace z_x := z_x.keep hb1
        replace hb := bthen hb hb1
        clear hb1
        replace q_a0 := x_a.c0; replace q_a1 := x_a.c1; replace f_a0 := x_a.fr 0; replace f_a1 := x_a.fr 1
        replace q_x0 := x_x.c0; replace q_x1 := x_x.c1; replace f_x0 := x_x.fr 0; replace f_x1 := x_x.fr 1
        rw [eqB_of rfl]
        go_wp2
        go_ret
        exact ⟨rfl, hb⟩
      · have hsg : ¬ sgnI A < 0 := mt sgnI_lt0.1 hA
        have h2s : s.size ≤ 1000 := by omega
        have hok : okD (sgT s.data.toList) = true := by rw [hsl, (no_sign hrd).2]; exact okD_of hrd hrp
        have hval : zi (sgB s.data.toList) (dv (sgT s.data.toList)) = A := by rw [hsl, (no_sign hrd).1, (no_sign hrd).2, hdv, zi_false]; omega
        have HOK := Lib.hid hok; have HVAL := Lib.hid hval; clear hok hval hsl hsz hrd hrl hrp hdv hA hs
        generalize hSA : sgnI A = SA at *
        have HSA := Lib.hid hSA; clear hSA
        go_wp2_with fail
        with_reducible refine (ZSign_any za (by omega)).mono ?_
        rintro e v7 ⟨rfl, hb1⟩
        replace x_a := x_a.keep hb1
        replace za := za.keep hb1
        replace hb := bthen hb hb1
        clear hb1
        replace q_a0 := x_a.c0; replace q_a1 := x_a.c1; replace f_a0 := x_a.fr 0; replace f_a1 := x_a.fr 1
        rw [HSA.out]
        go_wp2_with fail
        with_reducible refine (ZParse_yes s h2s HOK.out).mono ?_
        rintro e v8 ⟨A5, n5, c5, rfl, z_x, hb1⟩
        replace x_a := x_a.keep hb1
        replace za := za.keep hb1
        replace hb := bthen hb hb1
        clear hb1
        replace q_a0 := x_a.c0; replace q_a1 := x_a.c1; replace f_a0 := x_a.fr 0; replace f_a1 := x_a.fr 1
        rw [HVAL.out] at z_x ⊢
        have y_a := (x_a.alloc (.cells #[.bool (ngB A), .slice A5 n5 c5] 24)); have yq_a0 := y_a.c0; have yq_a1 := y_a.c1
        go_wp2_with fail
        clear y_a yq_a0 yq_a1
        have hb1 := below_alloc v8 (.cells #[.bool (ngB A), .slice A5 n5 c5] 24)
        have l_a_x := x_a.lt
        have x_x := Bx.new v8 (ngB A) A5 n5 c5
        have e_x : w.heap.size ≤ v8.heap.size := hb.size
        replace x_a := x_a.keep hb1
        replace za := za.keep hb1
        replace z_x := z_x.keep hb1
        replace hb := bthen hb hb1
        clear hb1
        replace q_a0 := x_a.c0; replace q_a1 := x_a.c1; replace f_a0 := x_a.fr 0; replace f_a1 := x_a.fr 1
        clear q_a0 q_a1 f_a0 f_a1
        generalize v8.alloc (.cells #[.bool (ngB A), .slice A5 n5 c5] 24) = v9 at *
        have q_a0 := x_a.c0; have q_a1 := x_a.c1; have f_a0 := x_a.fr 0; have f_a1 := x_a.fr 1
        have q_x0 := x_x.c0; have q_x1 := x_x.c1; have f_x0 := x_x.fr 0; have f_x1 := x_x.fr 1
        skip
        with_reducible refine (ZSame_any z_x.zr za (by omega) (by omega)).mono ?_
        rintro e v10 ⟨rfl, hb1⟩
        replace x_a := x_a.keep hb1
        replace x_x := x_x.keep hb1
        replace za := za.keep hb1
        replace z_x := z_x.keep hb1
        replace hb := bthen hb hb1
        clear hb1
        replace q_a0 := x_a.c0; replace q_a1 := x_a.c1; replace f_a0 := x_a.fr 0; replace f_a1 := x_a.fr 1
        replace q_x0 := x_x.c0; replace q_x1 := x_x.c1; replace f_x0 := x_x.fr 0; replace f_x1 := x_x.fr 1
        rw [eqB_of rfl]
        go_wp2
        go_ret
        exact ⟨rfl, hb⟩

end Go.Proofs.Ythnffjgbglncbaa
