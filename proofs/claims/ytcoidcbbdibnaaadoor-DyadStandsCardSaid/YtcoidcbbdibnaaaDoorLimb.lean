/-
  The limb functions of package nat: what each call returns.
-/
import Derived.Test.YtcoidcbbdibnaaaDoorRows
import Derived.Test.YtcoidcbbdibnaaaDoorNum
import Derived.WalkKit
import Derived.WalkSpells
import Derived.WalkLawsBesides
import Derived.Laws.BitsAllLaws
namespace Go.Proofs.YtcoidcbbdibnaaaDoor
open Go.RowKit

def Wd : Nat := 18446744073709551616
theorem Wd_eq : Wd = 18446744073709551616 := rfl
theorem Wd2 : 2 ≤ Wd := by decide
theorem Wd_pow : Wd = 2 ^ 64 := by decide

/-- A limb. -/
def Lm (x : Int) : Prop := 0 ≤ x ∧ x < (Wd : Int)
/-- A carry. -/
def Cr (c : Int) : Prop := c = 0 ∨ c = 1
theorem Cr_zero : Cr 0 := .inl rfl
theorem Lm_zero : Lm 0 := ⟨by omega, by rw [Wd_eq]; omega⟩
theorem Lm_of_Cr {c : Int} (h : Cr c) : Lm c := by rcases h with rfl | rfl <;> exact ⟨by omega, by rw [Wd_eq]; omega⟩

def addS (x y c : Int) : Int := (x + y + c) % (Wd : Int)
def addC (x y c : Int) : Int := (x + y + c) / (Wd : Int)
def subS (x y c : Int) : Int := (x - y - c) % (Wd : Int)
def subC (x y c : Int) : Int := -((x - y - c) / (Wd : Int))
def mulH (x y : Int) : Int := x * y / (Wd : Int)
def mulL (x y : Int) : Int := x * y % (Wd : Int)

theorem wrap_u64 (n : Int) : IntKind.u64.wrap n = n % 18446744073709551616 := by simp [IntKind.wrap, IntKind.bits, IntKind.signed]

theorem top_and (a b : Nat) : (a &&& b) / 9223372036854775808 = (a / 9223372036854775808) &&& (b / 9223372036854775808) := by
  have := Nat.shiftRight_and_distrib (a := a) (b := b) (i := 63)
  simpa [Nat.shiftRight_eq_div_pow] using this
theorem top_or (a b : Nat) : (a ||| b) / 9223372036854775808 = (a / 9223372036854775808) ||| (b / 9223372036854775808) := by
  have := Nat.shiftRight_or_distrib (a := a) (b := b) (i := 63)
  simpa [Nat.shiftRight_eq_div_pow] using this

theorem addLimb_carry (x y s : Nat) (hx : x < 18446744073709551616) (hy : y < 18446744073709551616) (c : Nat) (hc : c ≤ 1) (hs : s = (x + y + c) % 18446744073709551616) :
    bits .or .u64 (bits .and .u64 (x : Int) (y : Int)) (bits .andNot .u64 (bits .or .u64 (x : Int) (y : Int)) (s : Int)) / 9223372036854775808 = (((x + y + c) / 18446744073709551616 : Nat) : Int) := by
  have hsl : s < 18446744073709551616 := by omega
  rw [u64_and_nat x y hx hy, u64_or_nat x y hx hy]
  have h1 : x ||| y < 18446744073709551616 := Nat.or_lt_two_pow (n := 64) hx hy
  have h2 : x &&& y < 18446744073709551616 := Nat.and_lt_two_pow (n := 64) _ hy
  rw [u64_andNot_nat _ s h1 hsl]
  have h3 : (x ||| y) &&& (18446744073709551615 - s) < 18446744073709551616 := Nat.and_lt_two_pow (n := 64) _ (by omega)
  rw [u64_or_nat _ _ h2 h3]
  have e : ∀ n : Nat, ((n : Int) / 9223372036854775808) = ((n / 9223372036854775808 : Nat) : Int) := fun n => by omega
  rw [e, top_or, top_and, top_and, top_or]
  congr 1
  have b1 : x / 9223372036854775808 = 0 ∨ x / 9223372036854775808 = 1 := by omega
  have b2 : y / 9223372036854775808 = 0 ∨ y / 9223372036854775808 = 1 := by omega
  have b3 : (18446744073709551615 - s) / 9223372036854775808 = 0 ∨ (18446744073709551615 - s) / 9223372036854775808 = 1 := by omega
  rcases b1 with b1 | b1 <;> rcases b2 with b2 | b2 <;> rcases b3 with b3 | b3 <;> simp only [b1, b2, b3, Nat.reduceAnd, Nat.reduceOr] <;> omega

theorem subLimb_carry (x y s : Nat) (hx : x < 18446744073709551616) (hy : y < 18446744073709551616) (c : Nat) (hc : c ≤ 1) (hs : (s : Int) = ((x : Int) - y - c) % 18446744073709551616) :
    bits .or .u64 (bits .and .u64 (bits .xor .u64 IntKind.u64.max (x : Int)) (y : Int)) (bits .and .u64 (bits .or .u64 (bits .xor .u64 IntKind.u64.max (x : Int)) (y : Int)) (s : Int)) / 9223372036854775808
      = -(((x : Int) - y - c) / 18446744073709551616) := by
  have hsl : s < 18446744073709551616 := by omega
  have em : IntKind.u64.max = ((18446744073709551615 : Nat) : Int) := by simp [IntKind.max, IntKind.bits, IntKind.signed]
  have ex : 18446744073709551615 ^^^ x = 18446744073709551615 - x := by
    have := Nat.xor_comm
    apply Nat.eq_of_testBit_eq
    intro i
    have h2 : 18446744073709551615 - x = 2 ^ 64 - (x + 1) := by omega
    rw [h2, Nat.testBit_two_pow_sub_succ (by omega), Nat.testBit_xor]
    have h3 : (18446744073709551615 : Nat) = 2 ^ 64 - 1 := by omega
    rw [h3, Nat.testBit_two_pow_sub_one]
    by_cases hi : i < 64
    · simp [hi]
    · have : x.testBit i = false := Nat.testBit_lt_two_pow (Nat.lt_of_lt_of_le hx (Nat.pow_le_pow_right (n := 2) (by omega) (show 64 ≤ i by omega)))
      simp [hi, this]
  rw [em, u64_xor_nat _ x (by omega) hx, ex]
  have hn : 18446744073709551615 - x < 18446744073709551616 := by omega
  rw [u64_and_nat _ y hn hy, u64_or_nat _ y hn hy]
  have h1 : (18446744073709551615 - x) ||| y < 18446744073709551616 := Nat.or_lt_two_pow (n := 64) hn hy
  have h2 : (18446744073709551615 - x) &&& y < 18446744073709551616 := Nat.and_lt_two_pow (n := 64) _ hy
  rw [u64_and_nat _ s h1 hsl]
  have h3 : ((18446744073709551615 - x) ||| y) &&& s < 18446744073709551616 := Nat.and_lt_two_pow (n := 64) _ hsl
  rw [u64_or_nat _ _ h2 h3]
  have e : ∀ n : Nat, ((n : Int) / 9223372036854775808) = ((n / 9223372036854775808 : Nat) : Int) := fun n => by omega
  rw [e, top_or, top_and, top_and, top_or]
  have b1 : (18446744073709551615 - x) / 9223372036854775808 = 0 ∨ (18446744073709551615 - x) / 9223372036854775808 = 1 := by omega
  have b2 : y / 9223372036854775808 = 0 ∨ y / 9223372036854775808 = 1 := by omega
  have b3 : s / 9223372036854775808 = 0 ∨ s / 9223372036854775808 = 1 := by omega
  rcases b1 with b1 | b1 <;> rcases b2 with b2 | b2 <;> rcases b3 with b3 | b3 <;> simp only [b1, b2, b3, Nat.reduceAnd, Nat.reduceOr] <;> omega

theorem addS_eq (x y c : Int) : IntKind.u64.wrap (IntKind.u64.wrap (x + y) + c) = addS x y c := by
  simp only [wrap_u64, addS, Wd_eq]; omega
theorem addC_eq (x y c : Int) (hx : Lm x) (hy : Lm y) (hc : Cr c) :
    bits .or .u64 (bits .and .u64 x y) (bits .andNot .u64 (bits .or .u64 x y) (addS x y c)) / 9223372036854775808 = addC x y c := by
  unfold Lm Cr at *
  rw [Wd_eq] at hx hy
  obtain ⟨a, rfl⟩ := Int.eq_ofNat_of_zero_le hx.1
  obtain ⟨b, rfl⟩ := Int.eq_ofNat_of_zero_le hy.1
  obtain ⟨d, rfl⟩ := Int.eq_ofNat_of_zero_le (show 0 ≤ c by omega)
  have := addLimb_carry a b ((a + b + d) % 18446744073709551616) (by omega) (by omega) d (by omega) rfl
  have e : addS (a : Int) (b : Int) (d : Int) = (((a + b + d) % 18446744073709551616 : Nat) : Int) := by simp only [addS, Wd_eq]; omega
  rw [e, this]
  simp only [addC, Wd_eq]; omega
theorem subS_eq (x y c : Int) : IntKind.u64.wrap (IntKind.u64.wrap (x - y) - c) = subS x y c := by
  simp only [wrap_u64, subS, Wd_eq]; omega
theorem subC_eq (x y c : Int) (hx : Lm x) (hy : Lm y) (hc : Cr c) :
    bits .or .u64 (bits .and .u64 (bits .xor .u64 IntKind.u64.max x) y) (bits .and .u64 (bits .or .u64 (bits .xor .u64 IntKind.u64.max x) y) (subS x y c)) / 9223372036854775808 = subC x y c := by
  unfold Lm Cr at *
  rw [Wd_eq] at hx hy
  obtain ⟨a, rfl⟩ := Int.eq_ofNat_of_zero_le hx.1
  obtain ⟨b, rfl⟩ := Int.eq_ofNat_of_zero_le hy.1
  obtain ⟨d, rfl⟩ := Int.eq_ofNat_of_zero_le (show 0 ≤ c by omega)
  obtain ⟨s, hs⟩ := Int.eq_ofNat_of_zero_le (show 0 ≤ subS (a : Int) (b : Int) (d : Int) by simp only [subS, Wd_eq]; omega)
  have := subLimb_carry a b s (by omega) (by omega) d (by omega) (by rw [← hs]; simp only [subS, Wd_eq]; rfl)
  rw [hs, this]
  simp only [subC, Wd_eq]; rfl

theorem mask32 (x : Int) (h0 : 0 ≤ x) (h1 : x < 18446744073709551616) : bits .and .u64 x 4294967295 = x % 4294967296 := by
  have := bits_mask .u64 64 (by decide) (fun n h0 h1 => by rw [wrap_u64]; omega) 32 (by decide) x h0 (by simpa using h1)
  simpa using this
theorem halves_mul (a b : Int) (ha : 0 ≤ a ∧ a ≤ 4294967295) (hb : 0 ≤ b ∧ b ≤ 4294967295) : 0 ≤ a * b ∧ a * b ≤ 18446744065119617025 := by
  refine ⟨Int.mul_nonneg ha.1 hb.1, ?_⟩
  have := Int.mul_le_mul ha.2 hb.2 hb.1 (by omega)
  omega
theorem mulH_eq (x y : Int) (hx : Lm x) (hy : Lm y) : IntKind.u64.wrap (IntKind.u64.wrap (IntKind.u64.wrap (x / 4294967296 * (y / 4294967296)) +
            IntKind.u64.wrap (IntKind.u64.wrap (x / 4294967296 * bits BinOp.and IntKind.u64 y 4294967295) +
                  IntKind.u64.wrap (bits BinOp.and IntKind.u64 x 4294967295 * bits BinOp.and IntKind.u64 y 4294967295) / 4294967296) / 4294967296) +
        IntKind.u64.wrap (IntKind.u64.wrap (bits BinOp.and IntKind.u64 x 4294967295 * (y / 4294967296)) +
              bits BinOp.and IntKind.u64 (IntKind.u64.wrap (IntKind.u64.wrap (x / 4294967296 * bits BinOp.and IntKind.u64 y 4294967295) +
                    IntKind.u64.wrap (bits BinOp.and IntKind.u64 x 4294967295 * bits BinOp.and IntKind.u64 y 4294967295) / 4294967296)) 4294967295) / 4294967296) = mulH x y := by
  unfold Lm at hx hy
  rw [Wd_eq] at hx hy
  rw [mask32 x hx.1 (by omega), mask32 y hy.1 (by omega)]
  have ex : x = x / 4294967296 * 4294967296 + x % 4294967296 := by omega
  have ey : y = y / 4294967296 * 4294967296 + y % 4294967296 := by omega
  have b1 : 0 ≤ x / 4294967296 ∧ x / 4294967296 ≤ 4294967295 := by omega
  have b2 : 0 ≤ x % 4294967296 ∧ x % 4294967296 ≤ 4294967295 := by omega
  have b3 : 0 ≤ y / 4294967296 ∧ y / 4294967296 ≤ 4294967295 := by omega
  have b4 : 0 ≤ y % 4294967296 ∧ y % 4294967296 ≤ 4294967295 := by omega
  generalize x / 4294967296 = x1 at *
  generalize x % 4294967296 = x0 at *
  generalize y / 4294967296 = y1 at *
  generalize y % 4294967296 = y0 at *
  have m11 := halves_mul x1 y1 b1 b3
  have m10 := halves_mul x1 y0 b1 b4
  have m01 := halves_mul x0 y1 b2 b3
  have m00 := halves_mul x0 y0 b2 b4
  have exy : x * y = x1 * y1 * 18446744073709551616 + (x1 * y0 + x0 * y1) * 4294967296 + x0 * y0 := by
    rw [ex, ey]; simp only [Int.add_mul, Int.mul_add]
    have e1 : x1 * 4294967296 * (y1 * 4294967296) = x1 * y1 * 18446744073709551616 := by
      rw [Int.mul_assoc, Int.mul_comm 4294967296 (y1 * 4294967296), Int.mul_assoc, ← Int.mul_assoc x1 y1]; rfl
    have e2 : x0 * (y1 * 4294967296) = x0 * y1 * 4294967296 := by rw [Int.mul_assoc]
    have e3 : x1 * 4294967296 * y0 = x1 * y0 * 4294967296 := by rw [Int.mul_assoc, Int.mul_comm 4294967296 y0, Int.mul_assoc]
    rw [e1, e2, e3]; omega
  simp only [mulH, Wd_eq]
  rw [exy]
  clear exy ex ey hx hy
  generalize x1 * y1 = p11 at *
  generalize x1 * y0 = p10 at *
  generalize x0 * y1 = p01 at *
  generalize x0 * y0 = p00 at *
  simp only [wrap_u64]
  have g1 : p10 % 18446744073709551616 = p10 := by omega
  have g2 : p00 % 18446744073709551616 = p00 := by omega
  have g3 : p01 % 18446744073709551616 = p01 := by omega
  have g4 : p11 % 18446744073709551616 = p11 := by omega
  rw [g1, g2, g3, g4]
  have g5 : (p10 + p00 / 4294967296) % 18446744073709551616 = p10 + p00 / 4294967296 := by omega
  rw [g5, mask32 _ (by omega) (by omega)]
  omega

theorem two_ret {a b c d : Int} (h1 : a = c) (h2 : b = d) : Ending.returned (.tuple #[.int .u64 a, .int .u64 b]) = .returned (.tuple #[.int .u64 c, .int .u64 d]) := by rw [h1, h2]

set_option maxHeartbeats 400000 in
theorem addLimb_any (x y c : Int) (w : World) (hx : Lm x) (hy : Lm y) (hc : Cr c) :
    Calls Tryd.prog 114 #[.int .u64 x, .int .u64 y, .int .u64 c] w fun e w' => e = .returned (.tuple #[.int .u64 (addS x y c), .int .u64 (addC x y c)]) ∧ w = w' := by
  go_enter Tryd.func114, Tryd.ntmps114
  go_wp2
  go_ret2
  exact ⟨two_ret (addS_eq x y c) (by rw [addS_eq]; exact addC_eq x y c hx hy hc), rfl⟩
set_option maxHeartbeats 400000 in
theorem subLimb_any (x y c : Int) (w : World) (hx : Lm x) (hy : Lm y) (hc : Cr c) :
    Calls Tryd.prog 115 #[.int .u64 x, .int .u64 y, .int .u64 c] w fun e w' => e = .returned (.tuple #[.int .u64 (subS x y c), .int .u64 (subC x y c)]) ∧ w = w' := by
  go_enter Tryd.func115, Tryd.ntmps115
  go_wp2
  all_goals first | (exfalso; simp [IntKind.signed] at *; done) | skip
  go_ret2
  exact ⟨two_ret (subS_eq x y c) (by rw [subS_eq]; exact subC_eq x y c hx hy hc), rfl⟩
set_option maxHeartbeats 400000 in
theorem mulLimb_any (x y : Int) (w : World) (hx : Lm x) (hy : Lm y) :
    Calls Tryd.prog 118 #[.int .u64 x, .int .u64 y] w fun e w' => e = .returned (.tuple #[.int .u64 (mulH x y), .int .u64 (mulL x y)]) ∧ w = w' := by
  go_enter Tryd.func118, Tryd.ntmps118
  go_wp2
  go_ret2
  refine ⟨two_ret ?_ ?_, rfl⟩
  · exact mulH_eq x y hx hy
  · simp only [wrap_u64, mulL, Wd_eq]; rfl
end Go.Proofs.YtcoidcbbdibnaaaDoor
