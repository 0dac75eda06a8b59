/-
  The law NatPowers, as a call.
-/
import Derived.Test.YtniippglkboieaaRing
namespace Go.Proofs.Ytniippglkboieaa
open Go.RowKit
set_option linter.unusedVariables false

theorem mask_i64 (x : Int) (k : Nat) (hk : k ≤ 62) : bits .and .i64 x (2 ^ k - 1) = x % 2 ^ k := by
  have hm : ((2 : Int) ^ k - 1) = ((2 ^ k - 1 : Nat) : Int) := by
    rw [Int.natCast_sub (Nat.two_pow_pos k)]; simp
  have hp : 2 ^ k ≤ 2 ^ 62 := Nat.pow_le_pow_right (by omega) hk
  have hb : (2 ^ k - 1) % 2 ^ 64 = 2 ^ k - 1 := Nat.mod_eq_of_lt (by omega)
  show IntKind.i64.wrap (((BitVec.ofInt 64 x &&& BitVec.ofInt 64 (2 ^ k - 1)).toNat : Nat) : Int) = _
  rw [hm, BitVec.ofInt_natCast, BitVec.toNat_and, BitVec.toNat_ofNat, hb, Nat.and_two_pow_sub_one_eq_mod, BitVec.toNat_ofInt]
  have e1 : ((x % ((2 ^ 64 : Nat) : Int)).toNat % 2 ^ k : Nat) = (x % 2 ^ k).toNat := by
    have h0 : 0 ≤ x % ((2 ^ 64 : Nat) : Int) := Int.emod_nonneg _ (by decide)
    have h1 : (0 : Int) < 2 ^ k := by exact_mod_cast Nat.two_pow_pos k
    have h2 : 0 ≤ x % (2 : Int) ^ k := Int.emod_nonneg _ (by omega)
    apply Int.ofNat.inj
    show (((x % ((2 ^ 64 : Nat) : Int)).toNat % 2 ^ k : Nat) : Int) = ((x % 2 ^ k).toNat : Int)
    rw [Int.natCast_emod, Int.toNat_of_nonneg h0, Int.toNat_of_nonneg h2]
    have h3 : ((2 ^ 64 : Nat) : Int) = 2 ^ k * 2 ^ (64 - k) := by
      rw [← Int.pow_add, show k + (64 - k) = 64 by omega]; simp
    rw [h3, Int.natCast_pow]
    exact Int.emod_emod_of_dvd x (Int.dvd_mul_right _ _)
  rw [e1]
  have h1 : (0 : Int) < 2 ^ k := by exact_mod_cast Nat.two_pow_pos k
  have h2 : 0 ≤ x % (2 : Int) ^ k := Int.emod_nonneg _ (by omega)
  have h3 : x % (2 : Int) ^ k < 2 ^ k := Int.emod_lt_of_pos _ h1
  have h4 : (2 : Int) ^ k ≤ 2 ^ 62 := by exact_mod_cast hp
  rw [Int.toNat_of_nonneg h2, IntKind.wrap_i64]
  have h5 : (2 : Int) ^ 62 = 4611686018427387904 := by decide
  generalize x % (2 : Int) ^ k = y at *
  omega
theorem sc_nat {s : Nat} (h : s ≤ 8192) : sc (s : Int) = s := by unfold sc; omega
theorem pow_le_Wd {s k : Nat} (h : s ≤ 64 * k) : 2 ^ s ≤ Wd ^ k := by rw [Wd_pow_k]; exact Nat.pow_le_pow_right (by omega) h
theorem Sm.bl {N k : Nat} (h : Sm N k) : bl N ≤ 64 * k := bl_le (by rw [← Wd_pow_k]; exact h)
theorem Sm.shl {N k s : Nat} (h : Sm N k) (hs : s ≤ 2048) : Sm (N * 2 ^ s) (k + 32) := by
  unfold Sm at *
  rw [Nat.pow_add]
  refine Nat.mul_lt_mul_of_lt_of_le h ?_ (Nat.pow_pos Wd0)
  exact pow_le_Wd (by omega)
theorem bl_shl {N s : Nat} (h : 0 < N) : bl (N * 2 ^ s) = bl N + s := by
  have h1 : 2 ^ s ≤ N * 2 ^ s := Nat.le_mul_of_pos_left _ h
  have := bl_div h1
  rw [Nat.mul_div_cancel _ (Nat.two_pow_pos s)] at this
  exact this.symm
theorem shl_rest {N s : Nat} : N - N / 2 ^ s * 2 ^ s = N % 2 ^ s := by
  have := Nat.mod_add_div N (2 ^ s)
  rw [Nat.mul_comm (2 ^ s)] at this
  omega
theorem bl_rest {N s : Nat} : bl (N % 2 ^ s) ≤ s := bl_le (Nat.mod_lt _ (Nat.two_pow_pos s))
theorem bit_shl {N s i : Nat} : bitB (N * 2 ^ s) ((i : Int) + s) = bitB N i := by
  unfold bitB
  have e : ((i : Int) + s).toNat = s + i := by omega
  rw [e, Int.toNat_natCast, Nat.pow_add, ← Nat.div_div_eq_div_mul, Nat.mul_div_cancel _ (Nat.two_pow_pos s)]
  congr 1

set_option maxHeartbeats 4000000 in
theorem NatPowers_any (A : Option Addr) (n c : Nat) (l1 : List Int) (x y : Int) (w : World) (ga : Rd w w.heap.size A n c l1) (_hx : -9223372036854775808 ≤ x ∧ x ≤ 9223372036854775807) (_hy : -9223372036854775808 ≤ y ∧ y ≤ 9223372036854775807) :
    Calls Try.prog 12 #[.slice A n c, .int .i64 x, .int .i64 y] w fun e w' => e = .returned (.bool true) ∧ Below w.heap.size w w' := by
  obtain ⟨s, hs⟩ : ∃ s : Nat, bits .and .i64 x 2047 = (s : Int) ∧ s ≤ 2047 := by
    have h := mask_i64 x 11 (by omega)
    have e : ((2 : Int) ^ 11 - 1) = 2047 := by decide
    have e2 : (2 : Int) ^ 11 = 2048 := by decide
    rw [e, e2] at h
    exact ⟨(x % 2048).toNat, by rw [h]; omega, by omega⟩
  obtain ⟨i, hi⟩ : ∃ i : Nat, bits .and .i64 y 4095 = (i : Int) ∧ i ≤ 4095 := by
    have h := mask_i64 y 12 (by omega)
    have e : ((2 : Int) ^ 12 - 1) = 4095 := by decide
    have e2 : (2 : Int) ^ 12 = 4096 := by decide
    rw [e, e2] at h
    exact ⟨(y % 4096).toNat, by rw [h]; omega, by omega⟩
  obtain ⟨hs1, hs2⟩ := hs
  obtain ⟨hi1, hi2⟩ := hi
  go_enter Try.func12, Try.ntmps12
  go_wp2_with fail
  refine (shown_any _).mono ?_
  rintro e w1 ⟨rfl, hb⟩
  have ga := (ga.below hb).more hb.size
  go_wp2_with fail
  refine (cut_any _ _ _ _ 20 _ _ ga (by omega)).mono ?_
  rintro e w' ⟨A2, n2, c2, rfl, hn2, ga, rfl⟩
  have m_ga := Sm.of ga hn2
  generalize hN_ga : vl Wd (l1.take 20) = N at *
  have HN_ga := Lib.hid hN_ga; clear hN_ga
  go_wp2_with fail
  refine (Norm_any _ _ _ _ _ _ ga (Nat.le_refl _)).mono ?_
  rintro e w3 ⟨A4, n4, c4, rfl, ga_, hb1⟩
  rw [HN_ga.out] at ga_
  have hb := hb.trans (hb1.mono hb.size)
  clear hb1
  clear ga
  have ga := ga_
  clear ga_
  have z_ga := ga.small m_ga
  have hsc := sc_nat (s := s) (by omega)
  have HSC := Lib.hid hsc; clear hsc
  go_wp2_with fail
  refine (Shl_any _ _ _ _ (s : Int) _ ga (by omega)).mono ?_
  rintro e w5 ⟨A6, n6, c6, rfl, gu, hb1⟩
  rw [vl_dg Wd2, HSC.out] at gu
  have ga := (ga.below hb1).more hb1.size
  have hb := hb.trans (hb1.mono hb.size)
  clear hb1
  have m_gu : Sm (N * 2 ^ s) (20 + 32) := m_ga.shl (by omega)
  have z_gu := gu.small m_gu
  go_wp2_with fail
  refine (Shr_any _ _ _ _ (s : Int) _ gu (by omega)).mono ?_
  rintro e w7 ⟨A8, n8, c8, rfl, gb, hb1⟩
  rw [vl_dg Wd2, HSC.out, Nat.mul_div_cancel _ (Nat.two_pow_pos s)] at gb
  have ga := (ga.below hb1).more hb1.size
  have gu := (gu.below hb1).more hb1.size
  have hb := hb.trans (hb1.mono hb.size)
  clear hb1
  go_wp2_with fail
  refine (Same_any _ _ _ _ _ _ _ _ _ _ gb ga).mono ?_
  rintro e w9 ⟨rfl, hq⟩
  rw [sameB_dg (rfl)]
  have hb1 := hq.bel
  clear hq
  have ga := (ga.below hb1).more hb1.size
  have gu := (gu.below hb1).more hb1.size
  have hb := hb.trans (hb1.mono hb.size)
  clear hb1 gb
  go_wp2_with fail
  refine (Shr_any _ _ _ _ (s : Int) _ ga (by omega)).mono ?_
  rintro e w10 ⟨A11, n11, c11, rfl, gd, hb1⟩
  rw [vl_dg Wd2, HSC.out] at gd
  have ga := (ga.below hb1).more hb1.size
  have gu := (gu.below hb1).more hb1.size
  have hb := hb.trans (hb1.mono hb.size)
  clear hb1
  have m_gd : Sm (N / 2 ^ s) 20 := m_ga.le (Nat.div_le_self _ _)
  have z_gd := gd.small m_gd
  go_wp2_with fail
  refine (Shl_any _ _ _ _ (s : Int) _ gd (by omega)).mono ?_
  rintro e w12 ⟨A13, n13, c13, rfl, ge, hb1⟩
  rw [vl_dg Wd2, HSC.out] at ge
  have ga := (ga.below hb1).more hb1.size
  have gu := (gu.below hb1).more hb1.size
  have hb := hb.trans (hb1.mono hb.size)
  clear hb1 gd
  go_wp2_with fail
  refine (Sub_any _ _ _ _ _ _ _ _ _ ga ge (by omega) (by rw [vl_dg Wd2, vl_dg Wd2]; exact Nat.div_mul_le_self _ _)).mono ?_
  rintro e w14 ⟨A15, n15, c15, rfl, gr, hb1⟩
  rw [vl_dg Wd2, vl_dg Wd2, shl_rest] at gr
  have ga := (ga.below hb1).more hb1.size
  have gu := (gu.below hb1).more hb1.size
  have hb := hb.trans (hb1.mono hb.size)
  clear hb1 ge
  have hla := ga.len
  have hbr := bl_rest (N := N) (s := s)
  have hbit := bit_shl (N := N) (s := s) (i := i)
  have HBIT := Lib.hid hbit; clear hbit
  have hbn : bl N ≤ 64 * 20 := m_ga.bl
  by_cases h0 : n4 = 0
  · subst h0
    clear hla
    go_wp2_with fail
    refine (BitLen_any _ _ _ _ _ _ gr).mono ?_
    rintro e w' ⟨rfl, rfl⟩
    rw [vl_dg Wd2]
    generalize bl (N % 2 ^ s) = βr at *
    go_wp2_with fail
    refine (Bit_any _ _ _ _ ((i : Int) + s) _ _ gu (by omega)).mono ?_
    rintro e w' ⟨rfl, rfl⟩
    rw [vl_dg Wd2, HBIT.out]
    go_wp2_with fail
    refine (Bit_any _ _ _ _ (i : Int) _ _ ga (by omega)).mono ?_
    rintro e w' ⟨rfl, rfl⟩
    rw [vl_dg Wd2]
    generalize bitB N (i : Int) = bb at *
    go_wp2
    go_ret
    exact ⟨by simp, hb⟩
  · have hN : 0 < N := by
      rcases Nat.eq_zero_or_pos N with h | h
      · exfalso; rw [h, dg_zero] at hla; exact h0 hla.symm
      · exact h
    have hbs := bl_shl (s := s) hN
    have HBS := Lib.hid hbs
    clear hla hbs
    have hb0 : ((n4 : Int) == 0) = false := by simp; omega
    go_wp2_with fail
    refine (BitLen_any _ _ _ _ _ _ gu).mono ?_
    rintro e w' ⟨rfl, rfl⟩
    rw [vl_dg Wd2, HBS.out]
    go_wp2_with fail
    refine (BitLen_any _ _ _ _ _ _ ga).mono ?_
    rintro e w' ⟨rfl, rfl⟩
    rw [vl_dg Wd2]
    generalize bl N = βn at *
    have hcast : ((βn + s : Nat) : Int) = (βn : Int) + s := by omega
    try rw [hcast]
    go_wp2_with fail
    refine (BitLen_any _ _ _ _ _ _ gr).mono ?_
    rintro e w' ⟨rfl, rfl⟩
    rw [vl_dg Wd2]
    generalize bl (N % 2 ^ s) = βr at *
    go_wp2_with fail
    refine (Bit_any _ _ _ _ ((i : Int) + s) _ _ gu (by omega)).mono ?_
    rintro e w' ⟨rfl, rfl⟩
    rw [vl_dg Wd2, HBIT.out]
    go_wp2_with fail
    refine (Bit_any _ _ _ _ (i : Int) _ _ ga (by omega)).mono ?_
    rintro e w' ⟨rfl, rfl⟩
    rw [vl_dg Wd2]
    generalize bitB N (i : Int) = bb at *
    go_wp2
    go_ret
    exact ⟨by simp, hb⟩
end Go.Proofs.Ytniippglkboieaa
