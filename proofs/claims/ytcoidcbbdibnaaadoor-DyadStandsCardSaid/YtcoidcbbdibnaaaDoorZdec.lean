/-
  Decimal digits. Plain mathematics; nothing of the program.
-/
namespace Go.Proofs.YtcoidcbbdibnaaaDoor
set_option linter.unusedVariables false

/-- A decimal digit's letter. -/
def digC (d : Nat) : UInt8 := UInt8.ofNat (48 + d)
/-- The lowest k decimal digits, the highest of them first. -/
def td (N : Nat) : Nat → List UInt8
  | 0 => []
  | k + 1 => digC (N / 10 ^ k % 10) :: td N k
theorem td_length (N k : Nat) : (td N k).length = k := by induction k with | zero => rfl | succ k ih => simp [td, ih]
theorem td_mod (N k : Nat) : td (N % 10 ^ k) k = td N k := by
  have key : ∀ j, j ≤ k → td (N % 10 ^ k) j = td N j := by
    intro j
    induction j with
    | zero => intro _; rfl
    | succ j ih =>
      intro hj
      simp only [td]
      rw [ih (by omega)]
      congr 2
      have e : 10 ^ k = 10 ^ j * (10 * 10 ^ (k - j - 1)) := by
        rw [← Nat.mul_assoc, ← Nat.pow_succ, ← Nat.pow_add]; congr 1; omega
      rw [e, Nat.mod_mul_right_div_self, Nat.mod_mul_right_mod]
  exact key k (Nat.le_refl _)
theorem td_append (N j k : Nat) : td N (j + k) = td (N / 10 ^ k) j ++ td N k := by
  induction j with
  | zero => simp [td]
  | succ j ih =>
    rw [show j + 1 + k = (j + k) + 1 by omega]
    simp only [td, List.cons_append]
    rw [ih, Nat.div_div_eq_div_mul, ← Nat.pow_add, Nat.add_comm k j]
theorem td_snoc (N k : Nat) : td N (k + 1) = td (N / 10) k ++ [digC (N % 10)] := by
  rw [td_append]
  simp [td]
theorem td_half (N D H : Nat) (hD : D = 10 ^ H) : td N (H + H) = td (N / D) H ++ td (N % D) H := by
  subst hD
  rw [td_append, td_mod]
theorem digC_inj {a b : Nat} (ha : a < 10) (hb : b < 10) (h : digC a = digC b) : a = b := by
  have := congrArg UInt8.toNat h
  simp only [digC, UInt8.toNat_ofNat'] at this
  omega
theorem digC_zero {a : Nat} (ha : a < 10) : digC a = 48 ↔ a = 0 := ⟨fun h => digC_inj ha (by omega) (h.trans rfl), fun h => by subst h; rfl⟩
theorem digC_toNat {a : Nat} (ha : a < 10) : (digC a).toNat = 48 + a := by
  simp only [digC, UInt8.toNat_ofNat']; omega

/-- The decimal digits of a number, without noughts ahead. -/
def decL (N : Nat) : List UInt8 := if h : N < 10 then [digC N] else decL (N / 10) ++ [digC (N % 10)]
termination_by N
decreasing_by omega
theorem decL_small {N : Nat} (h : N < 10) : decL N = [digC N] := by rw [decL, dif_pos h]
theorem decL_big {N : Nat} (h : 10 ≤ N) : decL N = decL (N / 10) ++ [digC (N % 10)] := by rw [decL, dif_neg (by omega)]
theorem decL_pos (N : Nat) : 0 < (decL N).length := by
  by_cases h : N < 10
  · rw [decL_small h]; simp
  · rw [decL_big (by omega)]; simp

/-- How many noughts a text begins with. -/
def lz (l : List UInt8) : Nat := (l.takeWhile (· == 48)).length
theorem lz_le (l : List UInt8) : lz l ≤ l.length := by unfold lz; induction l with | nil => simp | cons x l ih => simp only [List.takeWhile]; split <;> simp <;> omega
theorem drop_lz (l : List UInt8) : l.drop (lz l) = l.dropWhile (· == 48) := by
  unfold lz
  induction l with
  | nil => rfl
  | cons x l ih => simp only [List.takeWhile, List.dropWhile]; split <;> simp_all
theorem td_strip {M n : Nat} (h : M < 10 ^ n) : (td M n).dropWhile (· == 48) = if M = 0 then [] else decL M := by
  induction n generalizing M with
  | zero => simp at h; subst h; simp [td]
  | succ n ih =>
    rw [td_snoc]
    have h10 : M / 10 < 10 ^ n := by rw [Nat.div_lt_iff_lt_mul (by omega), ← Nat.pow_succ]; exact h
    have hi := ih h10
    have hd : M % 10 < 10 := Nat.mod_lt _ (by omega)
    rw [List.dropWhile_append, hi]
    by_cases hM : M / 10 = 0
    · have hs : M < 10 := by omega
      rw [if_pos hM]
      by_cases h0 : M = 0
      · subst h0; simp [List.dropWhile, digC]
      · rw [if_neg h0, decL_small hs]
        have : M % 10 = M := by omega
        rw [this]
        have hne : (digC M == 48) = false := by rw [beq_eq_false_iff_ne]; intro hc; exact h0 ((digC_zero hs).1 hc)
        simp [List.dropWhile, hne]
    · have e2 : (if M = 0 then [] else decL M) = decL (M / 10) ++ [digC (M % 10)] := by rw [if_neg (by omega)]; exact decL_big (by omega)
      rw [if_neg hM, e2]
      have hp := decL_pos (M / 10)
      have : (decL (M / 10)).isEmpty = false := by cases hl : decL (M / 10) with | nil => rw [hl] at hp; simp at hp | cons => rfl
      simp [this]
/-- What Text does: the noughts ahead are taken off, but for the last digit. -/
theorem td_text {N n : Nat} (h : N < 10 ^ (n + 1)) : (td N (n + 1)).drop (lz ((td N (n + 1)).take n)) = decL N := by
  have ht : (td N (n + 1)).take n = td (N / 10) n := by rw [td_snoc, List.take_append_of_le_length (by rw [td_length]; omega), List.take_of_length_le (by rw [td_length]; omega)]
  rw [ht, td_snoc]
  have h10 : N / 10 < 10 ^ n := by rw [Nat.div_lt_iff_lt_mul (by omega), ← Nat.pow_succ]; exact h
  have hl := lz_le (td (N / 10) n)
  rw [List.drop_append_of_le_length hl, drop_lz, td_strip h10]
  by_cases hM : N / 10 = 0
  · rw [if_pos hM, decL_small (by omega)]
    have : N % 10 = N := by omega
    rw [this]; rfl
  · rw [if_neg hM]; exact (decL_big (by omega)).symm

theorem takeWhile_all {l : List UInt8} {k : Nat} (hk : k ≤ l.length) (h : ∀ i (hi : i < l.length), i < k → l[i] = 48) (he : ∀ hi : k < l.length, l[k] ≠ 48) : lz l = k := by
  unfold lz
  induction l generalizing k with
  | nil => simp at hk; simp [hk]
  | cons x l ih =>
    rcases k with _ | k
    · have := he (by simp)
      simp at this
      have hb : (x == 48) = false := beq_eq_false_iff_ne.2 this
      simp [List.takeWhile, hb]
    · have h0 := h 0 (by simp) (by omega)
      simp at h0
      subst h0
      simp only [List.takeWhile, beq_self_eq_true, List.length_cons]
      rw [ih (k := k) (by simpa using hk) (fun i hi hik => by have := h (i + 1) (by simpa using hi) (by omega); simpa using this) (fun hi => by have := he (by simpa using hi); simpa using this)]
end Go.Proofs.YtcoidcbbdibnaaaDoor
