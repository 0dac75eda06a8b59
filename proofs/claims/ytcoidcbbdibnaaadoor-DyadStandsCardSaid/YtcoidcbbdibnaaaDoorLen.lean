/-
  limbLen, shiftUp, shiftDown.
-/
import Derived.Test.YtcoidcbbdibnaaaDoorSums
namespace Go.Proofs.YtcoidcbbdibnaaaDoor
open Go.RowKit
set_option linter.unusedVariables false

/-- How many bits a number has. -/
def bl (n : Nat) : Nat := (dg 2 n).length
theorem bl_le {n k : Nat} (h : n < 2 ^ k) : bl n ≤ k := dg_len_le (by omega) h
theorem lt_bl (n : Nat) : n < 2 ^ bl n := dg_lt (by omega) (Nat.le_refl _)
theorem bl_ge {n k : Nat} (h : 2 ^ k ≤ n) : k < bl n := by
  rcases Nat.lt_or_ge k (bl n) with h1 | h1
  · exact h1
  · have := lt_bl n
    have := Nat.pow_le_pow_right (n := 2) (by omega) h1
    omega
theorem le_of_bl {n k : Nat} (h : k < bl n) : 2 ^ k ≤ n := by
  rcases Nat.lt_or_ge n (2 ^ k) with h1 | h1
  · have := bl_le h1; omega
  · exact h1
theorem bl_eq {n k : Nat} (h1 : n < 2 ^ k) (h2 : 0 < k → 2 ^ (k - 1) ≤ n) : bl n = k := by
  have := bl_le h1
  rcases Nat.eq_zero_or_pos k with h | h
  · omega
  · have := bl_ge (h2 h); omega
theorem bl_div {n s : Nat} (h : 2 ^ s ≤ n) : bl (n / 2 ^ s) + s = bl n := by
  have h0 : 0 < n / 2 ^ s := Nat.div_pos h (Nat.two_pow_pos s)
  have h1 := lt_bl (n / 2 ^ s)
  have hb : 0 < bl (n / 2 ^ s) := bl_ge (k := 0) (by omega)
  have h2 := le_of_bl (n := n / 2 ^ s) (k := bl (n / 2 ^ s) - 1) (by omega)
  symm
  refine bl_eq ?_ (fun _ => ?_)
  · rw [Nat.pow_add]; exact (Nat.div_lt_iff_lt_mul (Nat.two_pow_pos s)).1 h1
  · rw [show bl (n / 2 ^ s) + s - 1 = (bl (n / 2 ^ s) - 1) + s by omega, Nat.pow_add]
    exact (Nat.le_div_iff_mul_le (Nat.two_pow_pos s)).1 h2
theorem bl_zero : bl 0 = 0 := bl_eq (by simp) (fun h => absurd h (by omega))
theorem bl_one : bl 1 = 1 := bl_eq (by simp) (fun _ => by simp)

def LenInv (x : Int) (p : Nat) (x' s : Int) : Prop := 0 ≤ x' ∧ x'.toNat < 2 ^ p ∧ 0 ≤ s ∧ s.toNat + bl x'.toNat = bl x.toNat
/-- The bits that may be left at the head of each round. -/
def pw (k : Nat) : Nat := 64 / 2 ^ k
theorem bl_limb {x : Int} (hx : Lm x) : bl x.toNat ≤ 64 := bl_le (by unfold Lm at hx; rw [Wd_eq] at hx; omega)
theorem LenInv.s64 {x x' s : Int} {p : Nat} (hx : Lm x) (h : LenInv x p x' s) : 0 ≤ s ∧ s ≤ 64 := by
  have := bl_limb hx
  obtain ⟨_, _, h3, h4⟩ := h
  omega
theorem LenInv.yes {x x' s : Int} {p : Nat} (h : LenInv x (p + p) x' s) (D : Int) (hD : D = ((2 ^ p : Nat) : Int)) (h0 : (x' / D != 0) = true) : LenInv x p (x' / D) (s + p) := by
  obtain ⟨h1, h2, h3, h4⟩ := h
  subst hD
  obtain ⟨n, rfl⟩ := Int.eq_ofNat_of_zero_le h1
  have e : ((n : Int) / ((2 ^ p : Nat) : Int)) = ((n / 2 ^ p : Nat) : Int) := by simp
  rw [e] at h0 ⊢
  have hn : n / 2 ^ p ≠ 0 := by
    intro h; rw [h] at h0; simp at h0
  have hge : 2 ^ p ≤ n := by
    rcases Nat.lt_or_ge n (2 ^ p) with h5 | h5
    · exact absurd (Nat.div_eq_of_lt h5) hn
    · exact h5
  rw [Int.toNat_natCast] at h2 h4
  refine ⟨Int.natCast_nonneg _, ?_, by omega, ?_⟩
  · rw [Int.toNat_natCast, Nat.div_lt_iff_lt_mul (Nat.two_pow_pos p), ← Nat.pow_add]; exact h2
  · rw [Int.toNat_natCast]
    have := bl_div hge
    omega
theorem LenInv.no {x x' s : Int} {p : Nat} (h : LenInv x (p + p) x' s) (D : Int) (hD : D = ((2 ^ p : Nat) : Int)) (h0 : (x' / D != 0) = false) : LenInv x p x' s := by
  obtain ⟨h1, h2, h3, h4⟩ := h
  subst hD
  refine ⟨h1, ?_, h3, h4⟩
  obtain ⟨n, rfl⟩ := Int.eq_ofNat_of_zero_le h1
  have e : ((n : Int) / ((2 ^ p : Nat) : Int)) = ((n / 2 ^ p : Nat) : Int) := by simp
  rw [e] at h0
  have h5 : n / 2 ^ p = 0 := by
    have : ((n / 2 ^ p : Nat) : Int) = 0 := by simpa using h0
    omega
  rw [Int.toNat_natCast]
  exact (Nat.div_eq_zero_iff.1 h5).resolve_left (by have := Nat.two_pow_pos p; omega)
theorem LenInv.done {x x' s : Int} (hx : Lm x) (h : LenInv x 1 x' s) : wrap64 (s + wrap64 x') = bl x.toNat := by
  have hs := h.s64 hx
  obtain ⟨h1, h2, h3, h4⟩ := h
  have : x' = 0 ∨ x' = 1 := by omega
  rcases this with rfl | rfl
  · have : bl (0 : Int).toNat = 0 := bl_zero
    rw [this] at h4
    unfold wrap64; omega
  · have : bl (1 : Int).toNat = 1 := bl_one
    rw [this] at h4
    unfold wrap64; omega

set_option maxHeartbeats 1000000 in
theorem limbLen_any (x : Int) (w : World) (hx : Lm x) :
    Calls Tryd.prog 92 #[.int .u64 x] w fun e w' => e = .returned (.int .i64 (bl x.toNat)) ∧ w = w' := by
  go_enter Tryd.func92, Tryd.ntmps92
  go_wp2
  go_loop [0, 3, 4, 5, 6] (fun xv nv _ _ i => ∃ (k : Nat) (x' s : Int), k ≤ 6 ∧ i = .int .i64 k ∧ xv = .int .u64 x' ∧ nv = .int .i64 s ∧ LenInv x (pw k) x' s) (fun _ _ _ _ i => 6 - (intOf i).toNat)
  case atStart => exact ⟨0, x, 0, by omega, rfl, rfl, rfl, hx.1, by unfold Lm at hx; rw [Wd_eq] at hx; show _ < 18446744073709551616; omega, by omega, by simp⟩
  case round =>
    obtain ⟨k, x', s, hk, rfl, rfl, rfl, hinv⟩ := hrel
    have hs := hinv.s64 hx
    by_cases h6 : k < 6
    · rcases (show k = 0 ∨ k = 1 ∨ k = 2 ∨ k = 3 ∨ k = 4 ∨ k = 5 by omega) with rfl | rfl | rfl | rfl | rfl | rfl
      all_goals go_wp2
      all_goals go_round
      all_goals first
        | (simp [intOf]; done)
        | exact ⟨1, _, _, by omega, rfl, rfl, rfl, LenInv.yes (p := 32) hinv _ (by rfl) (by assumption)⟩
        | exact ⟨1, _, _, by omega, rfl, rfl, rfl, LenInv.no (p := 32) hinv _ (by rfl) (by assumption)⟩
        | exact ⟨2, _, _, by omega, rfl, rfl, rfl, LenInv.yes (p := 16) hinv _ (by rfl) (by assumption)⟩
        | exact ⟨2, _, _, by omega, rfl, rfl, rfl, LenInv.no (p := 16) hinv _ (by rfl) (by assumption)⟩
        | exact ⟨3, _, _, by omega, rfl, rfl, rfl, LenInv.yes (p := 8) hinv _ (by rfl) (by assumption)⟩
        | exact ⟨3, _, _, by omega, rfl, rfl, rfl, LenInv.no (p := 8) hinv _ (by rfl) (by assumption)⟩
        | exact ⟨4, _, _, by omega, rfl, rfl, rfl, LenInv.yes (p := 4) hinv _ (by rfl) (by assumption)⟩
        | exact ⟨4, _, _, by omega, rfl, rfl, rfl, LenInv.no (p := 4) hinv _ (by rfl) (by assumption)⟩
        | exact ⟨5, _, _, by omega, rfl, rfl, rfl, LenInv.yes (p := 2) hinv _ (by rfl) (by assumption)⟩
        | exact ⟨5, _, _, by omega, rfl, rfl, rfl, LenInv.no (p := 2) hinv _ (by rfl) (by assumption)⟩
        | exact ⟨6, _, _, by omega, rfl, rfl, rfl, LenInv.yes (p := 1) hinv _ (by rfl) (by assumption)⟩
        | exact ⟨6, _, _, by omega, rfl, rfl, rfl, LenInv.no (p := 1) hinv _ (by rfl) (by assumption)⟩
    · obtain rfl : k = 6 := by omega
      go_wp2
      go_ret
      exact ⟨ret_i64 (hinv.done hx), rfl⟩
end Go.Proofs.YtcoidcbbdibnaaaDoor
