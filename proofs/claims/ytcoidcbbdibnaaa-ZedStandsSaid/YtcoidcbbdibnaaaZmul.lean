/-
  zed: Sub, Mul, Neg, Abs, Gcd, Shl.
-/
import Derived.Test.YtcoidcbbdibnaaaZadd
namespace Go.Proofs.Ytcoidcbbdibnaaa
open Go.RowKit
set_option linter.unusedVariables false

theorem Zr.flip {w : World} {b : Bool} {A : Option Addr} {n c k : Nat} {X : Int} (h : Zr w b A n c X k) : Zr w (!b) A n c (-X) k := by
  obtain ⟨l, h1, rfl, h3⟩ := h
  exact ⟨l, h1, zi_not _ _, h3⟩
theorem Sm.shlq {N j q s : Nat} (h : Sm N j) (h1 : s ≤ 64 * q) : Sm (N * 2 ^ s) (j + q) := by
  unfold Sm at *
  rw [Nat.pow_add, Wd_pow_k q]
  have h2 : 2 ^ s ≤ 2 ^ (64 * q) := Nat.pow_le_pow_right (by omega) h1
  exact Nat.lt_of_lt_of_le (Nat.mul_lt_mul_of_pos_right h (Nat.two_pow_pos _)) (Nat.mul_le_mul_left _ h2)
theorem sc_le2 (i : Int) : sc i ≤ 64 * 128 := by unfold sc; omega
theorem Sm.shl {N j : Nat} (i : Int) (h : Sm N j) : Sm (N * 2 ^ sc i) (j + 128) := h.shlq (sc_le2 i)
theorem zi_mul' (b d : Bool) (N M : Nat) : zi b N * zi d M = zi (!(b == d)) (N * M) := by rw [zi_mul]; rfl
theorem Sm.div {N j : Nat} (d : Nat) (h : Sm N j) : Sm (N / d) j := h.le (Nat.div_le_self _ _)
theorem zi_shl (b : Bool) (N s : Nat) : zi b N * 2 ^ s = zi b (N * 2 ^ s) := by unfold zi; cases b <;> simp [Int.neg_mul]
theorem Sm.one {k : Nat} (h : 1 ≤ k) : Sm 1 k := Nat.lt_of_lt_of_le Wd2 (by have := Nat.pow_le_pow_right (n := Wd) Wd0 h; simpa using this)
theorem Sm.inc {N k : Nat} (h : Sm N k) (hk : 1 ≤ k) : Sm (N + 1) (k + 1) := h.add (Sm.one hk)

theorem Sm.gcd {N M k : Nat} (h : Sm N k) (h2 : Sm M k) : Sm (Nat.gcd N M) k := by
  rcases Nat.eq_zero_or_pos N with h0 | h0
  · subst h0; rw [Nat.gcd_zero_left]; exact h2
  · exact h.le (Nat.gcd_le_left _ h0)
set_option maxHeartbeats 400000 in
theorem inc_any {A : Option Addr} {n c : Nat} {l : List Int} {w : World} (h : Rd w w.heap.size A n c l) (hn : n ≤ 1000000) :
    Calls Try.prog 49 #[.slice A n c] w (Out w (vl Wd l + 1)) := by
  have hb0 := below_alloc w (.cells #[.int .u64 1] 29)
  have h1 := lay1 w 1 (lm_small (by omega) (by omega))
  replace h := h.go hb0
  go_enter Try.func49, Try.ntmps49
  go_wp2_with fail
  refine (Add_any _ _ _ _ _ _ _ _ _ h h1 (by omega) (by omega)).mono ?_
  rintro e w1 ⟨A1, n1, c1, rfl, g1, hb1⟩
  rw [vl_one, show (1 : Int).toNat = 1 from rfl] at g1
  go_wp2
  go_ret
  exact ⟨_, _, _, rfl, g1, bthen hb0 hb1⟩

end Go.Proofs.Ytcoidcbbdibnaaa
