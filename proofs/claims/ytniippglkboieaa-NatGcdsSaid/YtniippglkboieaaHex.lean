/-
  Bit, digitAt, Hex.
-/
import Derived.Test.YtniippglkboieaaBits
namespace Go.Proofs.Ytniippglkboieaa
open Go.RowKit
set_option linter.unusedVariables false

/-- The digits of 2^e in limbs: what stands at place q, from bit r on. -/
theorem limb_bits {l : List Int} (hl : Lim Wd l) {q r e : Nat} (hq : q < l.length) (hr : r + e ≤ 64) : l[q].toNat / 2 ^ r % 2 ^ e = vl Wd l / 2 ^ (64 * q + r) % 2 ^ e := by
  have e1 := vl_split Wd l q (by omega)
  rw [vl_drop_step Wd l q hq] at e1
  have l1 := vl_lt (hl.take q)
  rw [List.length_take, Nat.min_eq_left (by omega)] at l1
  have hx := hl.get hq
  generalize l[q].toNat = x at *
  generalize vl Wd (l.drop (q + 1)) = m at *
  have e2 : vl Wd l / Wd ^ q = x + Wd * m := by
    rw [e1, Nat.add_mul_div_left _ _ (Nat.pow_pos Wd0), Nat.div_eq_of_lt l1, Nat.zero_add]
  rw [Nat.pow_add, ← Nat.div_div_eq_div_mul, ← Wd_pow_k, e2]
  have e3 : Wd * m = 2 ^ r * (2 ^ (64 - r) * m) := by
    rw [← Nat.mul_assoc, ← Nat.pow_add, show r + (64 - r) = 64 by omega, ← Wd_pow]
  have e4 : 2 ^ (64 - r) * m = 2 ^ e * (2 ^ (64 - r - e) * m) := by
    rw [← Nat.mul_assoc, ← Nat.pow_add, show e + (64 - r - e) = 64 - r by omega]
  rw [e3, Nat.add_mul_div_left _ _ (Nat.two_pow_pos r), e4, Nat.add_mul_mod_self_left]

/-- Bit i of a number. -/
def bitB (N : Nat) (i : Int) : Bool := decide (0 ≤ i) && decide (N / 2 ^ i.toNat % 2 = 1)
theorem mask1 (x : Int) (h0 : 0 ≤ x) (h1 : x < 18446744073709551616) : bits .and .u64 x 1 = x % 2 := by
  have := bits_mask .u64 64 (by decide) (fun n h0 h1 => by rw [wrap_u64]; have : n < 18446744073709551616 := by simpa using h1
                                                           omega) 1 (by decide) x h0 (by simpa using h1)
  simpa using this
theorem mask15 (x : Int) (h0 : 0 ≤ x) (h1 : x < 18446744073709551616) : bits .and .u64 x 15 = x % 16 := by
  have := bits_mask .u64 64 (by decide) (fun n h0 h1 => by rw [wrap_u64]; have : n < 18446744073709551616 := by simpa using h1
                                                           omega) 4 (by decide) x h0 (by simpa using h1)
  simpa using this
theorem shr_limb {x : Int} (hx : Lm x) (r : Nat) : 0 ≤ x / 2 ^ r ∧ x / 2 ^ r < 18446744073709551616 ∧ x / 2 ^ r = ((x.toNat / 2 ^ r : Nat) : Int) := by
  unfold Lm at hx
  rw [Wd_eq] at hx
  obtain ⟨a, rfl⟩ := Int.eq_ofNat_of_zero_le hx.1
  have e : ((a : Int) / 2 ^ r) = ((a / 2 ^ r : Nat) : Int) := by rw [Int.natCast_ediv, Int.natCast_pow]; rfl
  rw [e, Int.toNat_natCast]
  have : a / 2 ^ r ≤ a := Nat.div_le_self _ _
  generalize a / 2 ^ r = d at *
  omega

set_option maxHeartbeats 1000000 in
theorem Bit_any (A : Option Addr) (n c : Nat) (l : List Int) (i : Int) (w : World) (B : Nat) (h : Rd w B A n c l) (hi : i ≤ 9223372036854775807) :
    Calls Try.prog 23 #[.slice A n c, .int .i64 i] w fun e w' => e = .returned (.bool (bitB (vl Wd l) i)) ∧ w = w' := by
  have hcap := h.cap
  have hbig := h.big
  have H := Lib.hid h.len
  by_cases h0 : i < 0
  · have hd : decide (i < 0) = true := by simpa using h0
    have hf : false = bitB (vl Wd l) i := by unfold bitB; simp; omega
    have HF := Lib.hid hf; clear hf
    go_enter Try.func23, Try.ntmps23
    go_wp2
    go_ret
    exact ⟨ret_bool HF.out, rfl⟩
  · obtain ⟨k, rfl⟩ := Int.eq_ofNat_of_zero_le (show 0 ≤ i by omega)
    have hd : decide ((k : Int) < 0) = false := by simp
    obtain ⟨q, hq⟩ : ∃ q, q = k / 64 := ⟨_, rfl⟩
    obtain ⟨r, hr⟩ : ∃ r, r = k % 64 := ⟨_, rfl⟩
    have eq1 : (k : Int) / 64 = q := by omega
    have eq2 : (k : Int) % 64 = r := by omega
    have hr63 : r ≤ 63 := by omega
    have hk : k = 64 * q + r := by omega
    have HK := Lib.hid hk; clear hk hq hr
    by_cases hqn : n ≤ q
    · have hf : false = bitB (vl Wd l) k := by
        have h1 := vl_lt h.lim
        rw [H.out, Wd_pow_k] at h1
        have h2 : 2 ^ (64 * n) ≤ 2 ^ k := Nat.pow_le_pow_right (by omega) (by have := HK.out; omega)
        have h3 : vl Wd l / 2 ^ k = 0 := Nat.div_eq_of_lt (by omega)
        unfold bitB
        rw [Int.toNat_natCast, h3]; simp
      have HF := Lib.hid hf; clear hf
      go_enter Try.func23, Try.ntmps23
      go_wp2
      go_ret
      exact ⟨ret_bool HF.out, rfl⟩
    · obtain ⟨b, of, rfl, hb, hc⟩ := h.at_ (by omega)
      have hql : q < l.length := by have := H.out; omega
      have hcq := hc q hql
      have bx : Lm l[q] := h.lim.get hql
      have hlb := limb_bits h.lim (e := 1) hql (r := r) (by omega)
      clear hc
      generalize l[q] = x at *
      have hs := shr_limb bx r
      have hf : (bits .and .u64 (x / 2 ^ r) 1 == 1) = bitB (vl Wd l) k := by
        rw [mask1 _ hs.1 hs.2.1, hs.2.2]
        unfold bitB
        rw [Int.toNat_natCast, HK.out]
        simp only [Nat.pow_one] at hlb
        rw [← hlb]
        rw [Bool.eq_iff_iff]
        generalize x.toNat / 2 ^ r = d
        simp
        omega
      have HF := Lib.hid hf; clear hf hlb hs
      go_enter Try.func23, Try.ntmps23
      go_wp2
      go_ret
      exact ⟨ret_bool HF.out, rfl⟩

set_option maxHeartbeats 1000000 in
theorem digitAt_any (A : Option Addr) (n c : Nat) (l : List Int) (k : Nat) (w : World) (B : Nat) (h : Rd w B A n c l) (hk : k ≤ 1125899906842624) :
    Calls Try.prog 63 #[.slice A n c, .int .i64 k] w fun e w' => e = .returned (.int .u64 ((vl Wd l / 16 ^ k % 16 : Nat) : Int)) ∧ w = w' := by
  have hcap := h.cap
  have hbig := h.big
  have H := Lib.hid h.len
  have e16 : (16 : Nat) ^ k = 2 ^ (4 * k) := by rw [show (16 : Nat) = 2 ^ 4 by rfl, ← Nat.pow_mul]
  have H16 := Lib.hid e16; clear e16
  obtain ⟨q, hq⟩ : ∃ q, q = k / 16 := ⟨_, rfl⟩
  obtain ⟨r, hr⟩ : ∃ r, r = k % 16 := ⟨_, rfl⟩
  have eq1 : (k : Int) / 16 = q := by omega
  have eq2 : (k : Int) % 16 = r := by omega
  have hr63 : r ≤ 15 := by omega
  have hkk : 4 * k = 64 * q + 4 * r := by omega
  have HK := Lib.hid hkk; clear hkk hq hr
  by_cases hqn : n ≤ q
  · have hf : (0 : Int) = ((vl Wd l / 16 ^ k % 16 : Nat) : Int) := by
      have h1 := vl_lt h.lim
      rw [H.out, Wd_pow_k] at h1
      have h2 : 2 ^ (64 * n) ≤ 2 ^ (4 * k) := Nat.pow_le_pow_right (by omega) (by have := HK.out; omega)
      have h3 : vl Wd l / 16 ^ k = 0 := Nat.div_eq_of_lt (by rw [H16.out]; omega)
      rw [h3]; rfl
    have HF := Lib.hid hf; clear hf
    go_enter Try.func63, Try.ntmps63
    go_wp2
    go_ret
    exact ⟨ret_u64 HF.out, rfl⟩
  · obtain ⟨b, of, rfl, hb, hc⟩ := h.at_ (by omega)
    have hql : q < l.length := by have := H.out; omega
    have hcq := hc q hql
    have bx : Lm l[q] := h.lim.get hql
    have hlb := limb_bits h.lim (e := 4) hql (r := 4 * r) (by omega)
    clear hc
    generalize l[q] = x at *
    have hs := shr_limb bx (r * 4)
    have hf : bits .and .u64 (x / 2 ^ (r * 4)) 15 = ((vl Wd l / 16 ^ k % 16 : Nat) : Int) := by
      rw [mask15 _ hs.1 hs.2.1, hs.2.2, H16.out, HK.out]
      rw [show (2 : Nat) ^ 4 = 16 by rfl] at hlb
      rw [← hlb, Nat.mul_comm r 4]
      generalize x.toNat / 2 ^ (4 * r) = d
      omega
    have HF := Lib.hid hf; clear hf hlb hs
    have er : ((r : Int) * 4).toNat = r * 4 := by omega
    go_enter Try.func63, Try.ntmps63
    go_wp2
    go_ret
    exact ⟨ret_u64 HF.out, rfl⟩
end Go.Proofs.Ytniippglkboieaa
