/-
  Dyadic numbers: an odd part and how often two divides. Plain mathematics; nothing of the program.
-/
namespace Go.Proofs.YtcoidcbbdibnaaaDoor
set_option linter.unusedVariables false

/-- How often two divides a number: at most f times is tried. -/
def tzF : Nat → Nat → Nat
  | 0, _ => 0
  | f + 1, n => if n % 2 = 0 then tzF f (n / 2) + 1 else 0
theorem tzF_spec (f : Nat) : ∀ n, 0 < n → n ≤ f → ∃ q, q % 2 = 1 ∧ n = q * 2 ^ tzF f n := by
  induction f with
  | zero => intro n h0 h1; omega
  | succ f ih =>
    intro n h0 h1
    by_cases h : n % 2 = 0
    · obtain ⟨q, hq, he⟩ := ih (n / 2) (by omega) (by omega)
      refine ⟨q, hq, ?_⟩
      have e : tzF (f + 1) n = tzF f (n / 2) + 1 := by simp only [tzF]; rw [if_pos h]
      rw [e, Nat.pow_succ, ← Nat.mul_assoc, ← he]
      omega
    · refine ⟨n, by omega, ?_⟩
      have e : tzF (f + 1) n = 0 := by simp only [tzF]; rw [if_neg h]
      rw [e]; omega
/-- How often two divides an integer. -/
def tz (X : Int) : Nat := tzF X.natAbs X.natAbs
/-- The odd part. -/
def od (X : Int) : Int := X / 2 ^ tz X
/-- The exponent in normal form. -/
def nE (X e : Int) : Int := if X = 0 then 0 else e + tz X
theorem two_pow_pos (k : Nat) : (0 : Int) < 2 ^ k := by
  have := Nat.two_pow_pos k
  have e : (2 : Int) ^ k = ((2 ^ k : Nat) : Int) := by rw [Int.natCast_pow]; rfl
  omega
theorem pow_cast (k : Nat) : (2 : Int) ^ k = ((2 ^ k : Nat) : Int) := by rw [Int.natCast_pow]; rfl
theorem od_zero : od 0 = 0 := by unfold od; simp
theorem tz_spec {X : Int} (h : X ≠ 0) : X = od X * 2 ^ tz X ∧ od X % 2 = 1 := by
  obtain ⟨q, hq, he⟩ := tzF_spec X.natAbs X.natAbs (by omega) (Nat.le_refl _)
  have hp := two_pow_pos (tz X)
  have key : ∃ Q : Int, Q % 2 = 1 ∧ X = Q * 2 ^ tz X := by
    rcases Int.lt_or_le X 0 with h0 | h0
    · refine ⟨-(q : Int), by omega, ?_⟩
      have : ((q * 2 ^ tz X : Nat) : Int) = -X := by rw [show q * 2 ^ tz X = X.natAbs from he.symm]; omega
      rw [Int.natCast_mul, ← pow_cast] at this
      rw [Int.neg_mul]; omega
    · refine ⟨(q : Int), by omega, ?_⟩
      have : ((q * 2 ^ tz X : Nat) : Int) = X := by rw [show q * 2 ^ tz X = X.natAbs from he.symm]; omega
      rw [Int.natCast_mul, ← pow_cast] at this
      omega
  obtain ⟨Q, hQ, hX⟩ := key
  have : od X = Q := by
    unfold od
    generalize (2 : Int) ^ tz X = p at *
    rw [hX]
    exact Int.mul_ediv_cancel _ (by omega)
  rw [this]
  exact ⟨hX, hQ⟩
theorem od_ne {X : Int} (h : X ≠ 0) : od X ≠ 0 := fun h0 => by have := (tz_spec h).2; omega
theorem odd_pow {q r : Int} {s t : Nat} (hq : q % 2 = 1) (hr : r % 2 = 1) (h : q * 2 ^ s = r * 2 ^ t) : s ≤ t := by
  rcases Nat.lt_or_ge t s with hlt | hge
  · exfalso
    obtain ⟨d, rfl⟩ : ∃ d, s = t + (d + 1) := ⟨s - t - 1, by omega⟩
    rw [Int.pow_add, ← Int.mul_assoc, Int.mul_right_comm] at h
    have h1 := Int.eq_of_mul_eq_mul_right (by have := two_pow_pos t; omega) h
    rw [Int.pow_succ, ← Int.mul_assoc] at h1
    omega
  · exact hge
theorem nf_unique {X q : Int} {t : Nat} (h : X = q * 2 ^ t) (hq : q % 2 = 1) : tz X = t ∧ od X = q := by
  have hX : X ≠ 0 := by
    intro h0
    rw [h0] at h
    have := Int.mul_eq_zero.1 h.symm
    have h2 := two_pow_pos t
    omega
  obtain ⟨h1, h2⟩ := tz_spec hX
  have e : od X * 2 ^ tz X = q * 2 ^ t := h1.symm.trans h
  have ht : tz X = t := Nat.le_antisymm (odd_pow h2 hq e) (odd_pow hq h2 e.symm)
  refine ⟨ht, ?_⟩
  rw [ht] at e
  exact Int.eq_of_mul_eq_mul_right (by have := two_pow_pos t; omega) e
theorem mul_pow_ne {X : Int} (k : Nat) : X * 2 ^ k = 0 ↔ X = 0 := by
  rw [Int.mul_eq_zero]
  have := two_pow_pos k
  omega
theorem od_shl (X : Int) (k : Nat) : od (X * 2 ^ k) = od X := by
  by_cases h : X = 0
  · subst h; rw [Int.zero_mul]
  · obtain ⟨h1, h2⟩ := tz_spec h
    exact (nf_unique (t := tz X + k) (by rw [Int.pow_add, ← Int.mul_assoc, ← h1]) h2).2
theorem tz_shl {X : Int} (h : X ≠ 0) (k : Nat) : tz (X * 2 ^ k) = tz X + k := by
  obtain ⟨h1, h2⟩ := tz_spec h
  exact (nf_unique (t := tz X + k) (by rw [Int.pow_add, ← Int.mul_assoc, ← h1]) h2).1
theorem nE_shl (X e : Int) (k : Nat) : nE (X * 2 ^ k) e = nE X (e + k) := by
  unfold nE
  by_cases h : X = 0
  · rw [if_pos h, if_pos ((mul_pow_ne k).2 h)]
  · rw [if_neg h, if_neg (fun h1 => h ((mul_pow_ne k).1 h1)), tz_shl h]; omega
theorem nE_zero (e : Int) : nE 0 e = 0 := rfl
theorem nE_ne {X : Int} (h : X ≠ 0) (e : Int) : nE X e = e + tz X := by unfold nE; rw [if_neg h]
/-- Two ways to write one number have one normal form. -/
theorem nf_same {X Y e f m : Int} {a b : Nat} (h : X * 2 ^ a = Y * 2 ^ b) (he : e = m + a) (hf : f = m + b) : od X = od Y ∧ nE X e = nE Y f := by
  subst he hf
  rw [← od_shl X a, ← od_shl Y b, ← nE_shl, ← nE_shl, h]
  exact ⟨rfl, rfl⟩
theorem od_neg (X : Int) : od (-X) = -od X := by
  by_cases h : X = 0
  · subst h; rw [Int.neg_zero, od_zero, Int.neg_zero]
  · obtain ⟨h1, h2⟩ := tz_spec h
    exact (nf_unique (t := tz X) (by rw [Int.neg_mul, ← h1]) (by omega)).2
theorem od_nf {X e : Int} : od (od X) = od X ∧ nE (od X) (nE X e) = nE X e := by
  by_cases h : X = 0
  · subst h; rw [od_zero, od_zero]; exact ⟨rfl, rfl⟩
  · obtain ⟨h1, h2⟩ := tz_spec h
    obtain ⟨h3, h4⟩ := nf_unique (X := od X) (t := 0) (by omega) h2
    exact ⟨h4, by rw [nE_ne (od_ne h), h3]; omega⟩
theorem od_abs (X : Int) : (od X).natAbs ≤ X.natAbs := by
  by_cases h : X = 0
  · subst h; rw [od_zero]; exact Nat.le_refl _
  · obtain ⟨h1, h2⟩ := tz_spec h
    conv => rhs; rw [h1]
    rw [Int.natAbs_mul, pow_cast, Int.natAbs_natCast]
    exact Nat.le_mul_of_pos_right _ (Nat.two_pow_pos _)
theorem od_eq0 (X : Int) : od X = 0 ↔ X = 0 := ⟨fun h => Classical.byContradiction fun h1 => od_ne h1 h, fun h => by subst h; exact od_zero⟩
/-- Which exponents count. -/
def rE (e : Int) : Bool := decide (-4000 ≤ e ∧ e ≤ 4000)
def cM (X e : Int) : Int := if rE e then X else 0
def cE (e : Int) : Int := if rE e then e else 0
theorem cE_in (e : Int) : -4000 ≤ cE e ∧ cE e ≤ 4000 := by
  unfold cE rE
  by_cases h : -4000 ≤ e ∧ e ≤ 4000
  · rw [if_pos (decide_eq_true h)]; exact h
  · rw [if_neg (by simpa using h)]; omega
theorem c_yes {X e : Int} (h : -4000 ≤ e ∧ e ≤ 4000) : cM X e = X ∧ cE e = e := by
  have : rE e = true := decide_eq_true h
  unfold cM cE; rw [this]; exact ⟨rfl, rfl⟩
theorem c_no {X e : Int} (h : ¬ (-4000 ≤ e ∧ e ≤ 4000)) : cM X e = 0 ∧ cE e = 0 := by
  have : rE e = false := decide_eq_false h
  unfold cM cE; rw [this]; exact ⟨rfl, rfl⟩
/-- What a count is limited to. -/
def li (n : Int) : Int := min (max n (-4000)) 4000
theorem li_in (n : Int) : -4000 ≤ li n ∧ li n ≤ 4000 := by unfold li; omega
end Go.Proofs.YtcoidcbbdibnaaaDoor
