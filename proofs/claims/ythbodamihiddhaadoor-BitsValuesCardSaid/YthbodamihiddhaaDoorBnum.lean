/-
  Patterns of doubles, as numbers: the pieces, the value, the order, what is near.
-/
import Derived.Test.YthbodamihiddhaaDoorPg
import Derived.Laws.BitsAllLaws
namespace Go.Proofs.YthbodamihiddhaaDoor
open Go.RowKit
set_option linter.unusedVariables false

/-- A pattern's pieces: the field, the fraction, the sign; is it normal; the integer and the exponent of its number. -/
def fdN (b : Nat) : Nat := b / 4503599627370496 % 2048
def frN (b : Nat) : Nat := b % 4503599627370496
def sgN (b : Nat) : Bool := decide (9223372036854775808 ≤ b)
def nmN (b : Nat) : Bool := decide (fdN b ≠ 0 ∧ fdN b ≠ 2047)
def mnN (b : Nat) : Nat := if fdN b = 0 then frN b else frN b + 4503599627370496
def exN (b : Nat) : Int := if fdN b = 0 then -1074 else (fdN b : Int) - 1075
/-- The number of a pattern without its sign, times 2^4000. -/
def pvN (b : Nat) : Nat := mnN b * 2 ^ (exN b + 4000).toNat

theorem fdN_lt (b : Nat) : fdN b < 2048 := Nat.mod_lt _ (by omega)
theorem frN_lt (b : Nat) : frN b < 4503599627370496 := Nat.mod_lt _ (by omega)
theorem mnN_lt (b : Nat) : mnN b < 9007199254740992 := by have := frN_lt b; unfold mnN; split <;> omega
theorem exN_in (b : Nat) : -1074 ≤ exN b ∧ exN b ≤ 972 := by have := fdN_lt b; unfold exN; split <;> omega
theorem exN_num {b : Nat} (h : fdN b ≠ 2047) : -1074 ≤ exN b ∧ exN b ≤ 971 := by have := fdN_lt b; unfold exN; split <;> omega

theorem and_field (b : Nat) (h : b < 18446744073709551616) : bits .and .u64 ((b : Int) / 4503599627370496) 2047 = (fdN b : Int) := by
  have e1 : (b : Int) / 4503599627370496 = ((b / 4503599627370496 : Nat) : Int) := by omega
  have e2 := u64_and_nat (b / 4503599627370496) 2047 (by omega) (by omega)
  have e3 := Nat.and_two_pow_sub_one_eq_mod (b / 4503599627370496) 11
  rw [e1]
  refine e2.trans ?_
  unfold fdN
  exact congrArg _ e3
theorem and_frac (b : Nat) (h : b < 18446744073709551616) : bits .and .u64 (b : Int) 4503599627370495 = (frN b : Int) := by
  have e2 := u64_and_nat b 4503599627370495 h (by omega)
  have e3 := Nat.and_two_pow_sub_one_eq_mod b 52
  refine e2.trans ?_
  unfold frN
  exact congrArg _ e3
theorem and_sign (b : Nat) (h : b < 18446744073709551616) : bits .and .u64 (b : Int) 9223372036854775808 = if sgN b then 9223372036854775808 else 0 := by
  have e2 := u64_and_nat b 9223372036854775808 h (by omega)
  refine e2.trans ?_
  have e3 := Nat.and_mod_two_pow (a := b) (b := 9223372036854775808) (n := 63)
  have e4 := top_and b 9223372036854775808
  rw [show 9223372036854775808 / 9223372036854775808 = 1 from rfl, Nat.and_one_is_mod] at e4
  rw [show 9223372036854775808 % 2 ^ 63 = 0 from rfl, Nat.and_zero] at e3
  generalize b &&& 9223372036854775808 = t at *
  unfold sgN
  by_cases hs : 9223372036854775808 ≤ b <;> simp [hs] <;> omega
theorem or_sign (b : Nat) (h : b < 9223372036854775808) : bits .or .u64 (b : Int) 9223372036854775808 = ((b + 9223372036854775808 : Nat) : Int) := by
  have e2 := u64_or_nat b 9223372036854775808 (by omega) (by omega)
  refine e2.trans ?_
  have e3 : 9223372036854775808 + b = 9223372036854775808 ||| b := by
    have := Nat.two_pow_add_eq_or_of_lt (b := b) (i := 63) (by omega) 1
    simpa using this
  rw [Nat.or_comm, ← e3, Nat.add_comm]

theorem parts_sum (b : Nat) (h : b < 18446744073709551616) : b = (if sgN b then 9223372036854775808 else 0) + fdN b * 4503599627370496 + frN b := by
  unfold sgN fdN frN
  by_cases hs : 9223372036854775808 ≤ b <;> simp [hs] <;> omega
/-- A pattern put together again. -/
theorem join_mn (b : Nat) : (exN b + 1074).toNat * 4503599627370496 + mnN b = fdN b * 4503599627370496 + frN b := by
  unfold exN mnN
  have := fdN_lt b
  by_cases h : fdN b = 0
  · simp [h]
  · simp only [h, if_false]
    have : ((fdN b : Int) - 1075 + 1074).toNat + 1 = fdN b := by omega
    generalize ((fdN b : Int) - 1075 + 1074).toNat = k at *
    rw [← this, Nat.add_mul]; omega
theorem mn_bl {b : Nat} (h : fdN b ≠ 0) : bl (mnN b) = 53 := by
  have := frN_lt b
  refine bl_eq ?_ (fun _ => ?_) <;> unfold mnN <;> rw [if_neg h] <;> omega
theorem mn_bl0 {b : Nat} (h : fdN b = 0) : bl (mnN b) ≤ 52 := by
  have := frN_lt b
  refine bl_le ?_
  unfold mnN; rw [if_pos h]; omega
theorem fd_small {b : Nat} (h : b < 9218868437227405312) : fdN b = b / 4503599627370496 ∧ fdN b < 2047 ∧ sgN b = false := by
  unfold fdN sgN
  refine ⟨by omega, by omega, ?_⟩
  simp; omega
theorem vd_pv (b : Nat) : vd (mnN b) (exN b) = (pvN b : Int) := by
  unfold vd pvN
  rw [Int.natCast_mul, pow_cast]
/-- The next pattern's number is greater by one place. -/
theorem pv_succ {b : Nat} (h : b + 1 < 9218868437227405312) : pvN (b + 1) = pvN b + 2 ^ (exN b + 4000).toNat := by
  have f1 := fd_small (b := b) (by omega)
  have f2 := fd_small h
  have r1 := frN_lt b
  by_cases hc : frN b + 1 < 4503599627370496
  · have hf : fdN (b + 1) = fdN b := by rw [f1.1, f2.1]; unfold frN at hc; omega
    have hr : frN (b + 1) = frN b + 1 := by unfold frN at *; omega
    have he : exN (b + 1) = exN b := by unfold exN; rw [hf]
    have hm : mnN (b + 1) = mnN b + 1 := by unfold mnN; rw [hf, hr]; split <;> omega
    unfold pvN; rw [he, hm, Nat.add_mul, Nat.one_mul]
  · have hf : fdN (b + 1) = fdN b + 1 := by rw [f1.1, f2.1]; unfold frN at hc; omega
    have hr : frN (b + 1) = 0 := by unfold frN at *; omega
    have hr0 : frN b = 4503599627370495 := by omega
    have hm : mnN (b + 1) = 4503599627370496 := by unfold mnN; rw [hf, hr, if_neg (by omega)]
    by_cases h0 : fdN b = 0
    · have he : exN (b + 1) = exN b := by unfold exN; rw [hf, h0]; simp
      have hm0 : mnN b = 4503599627370495 := by unfold mnN; rw [if_pos h0, hr0]
      unfold pvN; rw [he, hm, hm0]
      generalize 2 ^ (exN b + 4000).toNat = t
      omega
    · have he : exN (b + 1) = exN b + 1 := by unfold exN; rw [hf, if_neg h0, if_neg (by omega)]; omega
      have hm0 : mnN b = 9007199254740991 := by unfold mnN; rw [if_neg h0, hr0]
      have hx := exN_in b
      unfold pvN; rw [he, hm, hm0, show (exN b + 1 + 4000).toNat = (exN b + 4000).toNat + 1 by omega, Nat.pow_succ]
      generalize 2 ^ (exN b + 4000).toNat = t
      omega
theorem pv_mono {a b : Nat} (h : a < b) (hb : b < 9218868437227405312) : pvN a < pvN b := by
  obtain ⟨d, rfl⟩ : ∃ d, b = a + d + 1 := ⟨b - a - 1, by omega⟩
  induction d with
  | zero =>
    have := pv_succ hb
    have hp := Nat.two_pow_pos (exN a + 4000).toNat
    have e : a + 0 = a := rfl
    rw [e] at *
    omega
  | succ d ih =>
    have h1 := ih (by omega) (by omega)
    have := pv_succ (b := a + d + 1) (by omega)
    have hp := Nat.two_pow_pos (exN (a + d + 1) + 4000).toNat
    have e : a + (d + 1) + 1 = a + d + 1 + 1 := by omega
    rw [e]
    omega
/-- The pattern that is put together of an integer of 53 bits and a last place. -/
theorem join_is {m : Nat} {e : Int} (h0 : 4503599627370496 ≤ m) (h1 : m < 9007199254740992) (he : -1074 ≤ e ∧ e ≤ 971) {b : Nat} (hb : b = (e + 1074).toNat * 4503599627370496 + m) :
    b < 9218868437227405312 ∧ fdN b ≠ 0 ∧ fdN b ≠ 2047 ∧ mnN b = m ∧ exN b = e ∧ nmN b = true := by
  have hlt : b < 9218868437227405312 := by omega
  have f := fd_small hlt
  have hf : fdN b = (e + 1074).toNat + 1 := by rw [f.1]; omega
  have hr : frN b = m - 4503599627370496 := by unfold frN; omega
  refine ⟨hlt, by omega, by omega, ?_, ?_, ?_⟩
  · unfold mnN; rw [if_neg (by omega), hr]; omega
  · unfold exN; rw [if_neg (by omega), hf]; omega
  · unfold nmN; rw [hf]; simp; omega
theorem bl_two {N : Nat} (h : 0 < N) : 2 ^ (bl N - 1) ≤ N ∧ N < 2 ^ bl N := by
  refine ⟨?_, lt_bl N⟩
  have hp := bl_pos h
  exact le_of_bl (k := bl N - 1) (by omega)
theorem bl_shl {N : Nat} (h : 0 < N) (k : Nat) : bl (N * 2 ^ k) = bl N + k := by
  have h1 := bl_two h
  have p1 := bl_pos h
  have a : 2 ^ (bl N - 1 + k) ≤ N * 2 ^ k := by rw [Nat.pow_add]; exact Nat.mul_le_mul_right _ h1.1
  have b : N * 2 ^ k < 2 ^ (bl N + k) := by rw [Nat.pow_add]; exact Nat.mul_lt_mul_of_pos_right h1.2 (Nat.two_pow_pos k)
  have c := bl_ge a
  have d := bl_le b
  omega
/-- The logarithm of a normal form is that of the number. -/
theorem lg_nf {X e : Int} (h : X ≠ 0) : lgI (od X) (nE X e) = e + bl X.natAbs - 1 := by
  unfold lgI
  rw [if_neg (od_ne h), nE_ne h]
  have h1 := congrArg Int.natAbs (tz_spec h).1
  rw [Int.natAbs_mul, pow_cast, Int.natAbs_natCast] at h1
  have h2 : 0 < (od X).natAbs := by have := od_ne h; omega
  have h3 := bl_shl h2 (tz X)
  rw [← h1] at h3
  omega
theorem lg_of {X e : Int} (h : X ≠ 0) : lgI X e = e + bl X.natAbs - 1 := by unfold lgI; rw [if_neg h]
theorem od_one : od 1 = 1 := by decide
theorem nE_one (e : Int) : nE 1 e = e := by unfold nE; rw [if_neg (by omega), show tz 1 = 0 from by decide]; omega
/-- A power of two is not above, the next one is. -/
theorem lg_vd {X e : Int} (h : 0 < X) (he : In e) (h1 : -4000 ≤ e + bl X.natAbs - 1) : vd 1 (e + bl X.natAbs - 1) ≤ vd X e ∧ vd X e < vd 1 (e + bl X.natAbs) := by
  have hb := bl_two (N := X.natAbs) (by omega)
  have p1 := bl_pos (N := X.natAbs) (by omega)
  unfold In at *
  obtain ⟨N, rfl⟩ : ∃ N : Nat, X = N := ⟨X.toNat, by omega⟩
  rw [Int.natAbs_natCast] at *
  generalize bl N = β at *
  have e1 : vd 1 (e + β - 1) = ((2 ^ (β - 1) * 2 ^ (e + 4000).toNat : Nat) : Int) := by
    unfold vd; rw [Int.one_mul, pow_cast, ← Nat.pow_add]; congr 2; omega
  have e2 : vd 1 (e + β) = ((2 ^ β * 2 ^ (e + 4000).toNat : Nat) : Int) := by
    unfold vd; rw [Int.one_mul, pow_cast, ← Nat.pow_add]; congr 2; omega
  have e3 : vd (N : Int) e = ((N * 2 ^ (e + 4000).toNat : Nat) : Int) := by unfold vd; rw [Int.natCast_mul, pow_cast]
  rw [e1, e2, e3]
  have a := Nat.mul_le_mul_right (2 ^ (e + 4000).toNat) hb.1
  have b := Nat.mul_lt_mul_of_pos_right hb.2 (Nat.two_pow_pos (e + 4000).toNat)
  omega
theorem vd_one_mono {e f : Int} (he : -4000 ≤ e) (h : e < f) : vd 1 e < vd 1 f := by
  unfold vd
  rw [Int.one_mul, Int.one_mul, pow_cast, pow_cast]
  have := Nat.pow_lt_pow_right (a := 2) (by omega) (show (e + 4000).toNat < (f + 4000).toNat by omega)
  omega
theorem vd_one_le {e f : Int} (he : -4000 ≤ e) (h : e ≤ f) : vd 1 e ≤ vd 1 f := by
  rcases Int.lt_or_le e f with h1 | h1
  · have := vd_one_mono he h1; omega
  · have : e = f := by omega
    subst this; omega
theorem vd_pos {X e : Int} (h : 0 < X) : 0 < vd X e := by unfold vd; exact Int.mul_pos h (two_pow_pos _)
theorem vd_npos {X e : Int} (h : X ≤ 0) : vd X e ≤ 0 := by
  unfold vd
  have := Int.mul_le_mul_of_nonneg_right h (show 0 ≤ (2 : Int) ^ (e + 4000).toNat by have := two_pow_pos (e + 4000).toNat; omega)
  omega
/-- The integer that is left of a number at its fifty-third bit. -/
theorem fl_near {X e t : Int} (h : 0 < X) (he : In e) (hl : -4000 ≤ t) (ht : t = e + bl X.natAbs - 1 - 52) :
    4503599627370496 ≤ flI X (e - t) ∧ flI X (e - t) < 9007199254740992 ∧ flI X (e - t) * 2 ^ (t + 4000).toNat ≤ vd X e ∧ vd X e < (flI X (e - t) + 1) * 2 ^ (t + 4000).toNat := by
  have hb := bl_two (N := X.natAbs) (by omega)
  have p1 := bl_pos (N := X.natAbs) (by omega)
  unfold In at *
  obtain ⟨N, rfl⟩ : ∃ N : Nat, X = N := ⟨X.toNat, by omega⟩
  rw [Int.natAbs_natCast] at *
  have hN : 0 < N := by omega
  generalize bl N = β at *
  unfold flI vd
  by_cases hn : e - t < 0
  · rw [if_pos hn]
    obtain ⟨s, hs⟩ : ∃ s : Nat, t = e + s := ⟨(t - e).toNat, by omega⟩
    subst hs
    have hβ : β = s + 53 := by omega
    subst hβ
    rw [show (-(e - (e + (s : Int)))).toNat = s by omega, show (e + (s : Int) + 4000).toNat = s + (e + 4000).toNat by omega, pow_cast, pow_cast, pow_cast]
    rw [show s + 53 - 1 = 52 + s by omega, Nat.pow_add, show s + 53 = 53 + s by omega, Nat.pow_add] at hb
    have hd := Nat.two_pow_pos s
    rw [Nat.pow_add]
    have hq := Nat.two_pow_pos (e + 4000).toNat
    generalize 2 ^ s = d at *
    generalize 2 ^ (e + 4000).toNat = q at *
    have e1 : ((N : Int) / (d : Int)) = ((N / d : Nat) : Int) := by rw [Int.natCast_ediv]
    rw [e1]
    have g1 : 4503599627370496 ≤ N / d := (Nat.le_div_iff_mul_le hd).2 hb.1
    have g2 : N / d < 9007199254740992 := (Nat.div_lt_iff_lt_mul hd).2 hb.2
    have g3 : N / d * d ≤ N := Nat.div_mul_le_self N d
    have g4 : N < (N / d + 1) * d := by
      have := Nat.lt_div_mul_add hd (a := N)
      rw [Nat.add_mul]; omega
    generalize N / d = y at *
    have g5 : y * (d * q) ≤ N * q := by rw [← Nat.mul_assoc]; exact Nat.mul_le_mul_right _ g3
    have g6 : N * q < (y + 1) * (d * q) := by rw [← Nat.mul_assoc]; exact Nat.mul_lt_mul_of_pos_right g4 hq
    refine ⟨by omega, by omega, ?_, ?_⟩
    · exact_mod_cast g5
    · exact_mod_cast g6
  · rw [if_neg hn]
    obtain ⟨s, hs⟩ : ∃ s : Nat, e = t + s := ⟨(e - t).toNat, by omega⟩
    subst hs
    have hβ : β = 53 - s ∧ s ≤ 52 := by omega
    obtain ⟨hβ, hs52⟩ := hβ
    subst hβ
    rw [show (t + (s : Int) - t).toNat = s by omega, show (t + (s : Int) + 4000).toNat = s + (t + 4000).toNat by omega, pow_cast, pow_cast, pow_cast, Nat.pow_add]
    have k1 : 2 ^ (53 - s - 1) * 2 ^ s = 4503599627370496 := by rw [← Nat.pow_add, show 53 - s - 1 + s = 52 by omega]
    have k2 : 2 ^ (53 - s) * 2 ^ s = 9007199254740992 := by rw [← Nat.pow_add, show 53 - s + s = 53 by omega]
    have g1 := Nat.mul_le_mul_right (2 ^ s) hb.1
    have g2 := Nat.mul_lt_mul_of_pos_right hb.2 (Nat.two_pow_pos s)
    rw [k1] at g1
    rw [k2] at g2
    have hq := Nat.two_pow_pos (t + 4000).toNat
    generalize 2 ^ s = d at *
    generalize 2 ^ (t + 4000).toNat = q at *
    have g3 : N * d * q = N * (d * q) := Nat.mul_assoc _ _ _
    have g4 : (N * d + 1) * q = N * (d * q) + q := by rw [Nat.add_mul, Nat.mul_assoc, Nat.one_mul]
    have e0 : (N : Int) * (d : Int) = ((N * d : Nat) : Int) := (Int.natCast_mul N d).symm
    refine ⟨by rw [e0]; omega, by rw [e0]; omega, ?_, ?_⟩
    · exact_mod_cast Nat.le_of_eq g3
    · have : N * (d * q) < (N * d + 1) * q := by omega
      exact_mod_cast this
end Go.Proofs.YthbodamihiddhaaDoor
