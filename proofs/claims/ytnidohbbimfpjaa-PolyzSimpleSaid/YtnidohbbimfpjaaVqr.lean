/-
  division of polynomials, step by step.
-/
import Derived.Test.YtnidohbbimfpjaaVpol
namespace Go.Proofs.Ytnidohbbimfpjaa.MP
set_option linter.unusedVariables false
set_option linter.unusedSimpArgs false
namespace Se
variable {p q r s t S : Se} {l m P Q R R0 R2 : List Int} {a b x f : Int} {n k i j d T : Nat}
theorem mo_mul_at (k : Nat) (f : Int) (q : Se) (i : Nat) : (mo k f * q) i = if i < k then 0 else f * q (i - k) := by
  induction k generalizing i with
  | zero => rw [mo_0, c_mul, sm_at]; simp
  | succ k ih =>
    rw [mo_succ, sh_mul]
    cases i with
    | zero => simp [sh_0]
    | succ i =>
      rw [sh_at, ih]
      by_cases h : i < k
      · rw [if_pos h, if_pos (by omega)]
      · rw [if_neg h, if_neg (by omega)]; congr 2; omega
theorem co_set_at (hk : k < l.length) (a : Int) (i : Nat) : (co (l.set k a)) i = if i = k then a else (co l) i := by
  by_cases h : i = k
  · subst h; rw [if_pos rfl, co_at (by simpa using hk)]; simp
  · rw [if_neg h]; simp [co, Ne.symm h]
theorem co_out (h : l.length ≤ i) : (co l) i = 0 := co_bd l i h
theorem co_take_at (l : List Int) (n i : Nat) : (co (l.take n)) i = if i < n then (co l) i else 0 := by
  simp only [co, List.getD_eq_getElem?_getD, List.getElem?_take]
  split <;> simp
/-- Divide: the state when k places of the quotient are left. -/
structure DvI (P Q t R : List Int) (d k : Nat) : Prop where
  eq : co P = co Q * co t + co R
  bd : Bd (co R) (d + k)
  z : ∀ i, i < k → (co t) i = 0
theorem DvI.step (h : DvI P Q m R d (k + 1)) (hQ : Q.length = d + 1) (hk : k < m.length) (hf : (co R) (k + d) = f * (co Q) d) (hR : co R2 = co R - mo k f * co Q) : DvI P Q (m.set k f) R2 d k := by
  have hz := h.z k (Nat.lt_succ_self k)
  have e : co (m.set k f) = co m + mo k f := by
    rw [co_set' hk, ← co_at hk, hz, Int.sub_zero]
  refine ⟨?_, fun i hi => ?_, fun i hi => ?_⟩
  · rw [e, hR, h.eq, mul_add, mul_comm (mo k f), sub_eq, add_assoc, add_comm (co R), ← add_assoc (co Q * mo k f), add_neg, zero_add]
  · rw [hR, sub_at, mo_mul_at, if_neg (by omega)]
    rcases Nat.lt_or_ge (d + k) i with h1 | h1
    · rw [h.bd i (by omega), co_out (l := Q) (i := i - k) (by omega)]; simp
    · obtain rfl : i = k + d := by omega
      rw [hf, Nat.add_sub_cancel_left, Int.sub_self]
  · rw [co_set_at hk, if_neg (by omega)]; exact h.z i (by omega)
/-- What divides goes on dividing: the next rest is 0. -/
theorem DvI.no (h : DvI P Q m R d (k + 1)) (hQ : Q.length = d + 1) (h0 : (co Q) d ≠ 0) (hd : Dv (co Q) (co P)) : ∃ u, (co R) (k + d) = (co Q) d * u := by
  obtain ⟨s, hs, e⟩ := hd
  have e2 : co R = co Q * (s - co m) := by
    rw [mul_sub, ← e, h.eq, sub_eq, add_comm (co Q * co m), add_assoc, add_neg, add_zero]
  have hf : Fn (s - co m) := hs.sub (co_fn m)
  have dq : Dg (co Q) d := ⟨h0, (co_bd Q).le (by omega)⟩
  by_cases hz : s - co m = c 0
  · exact ⟨0, by rw [e2, hz, mul_zero]; cases (k + d) <;> simp [c_0, c_at]⟩
  · obtain ⟨n, hn⟩ := hf.dg hz
    have hd2 := dq.mul hn
    rw [← e2] at hd2
    have hle : n ≤ k := by
      rcases Nat.lt_or_ge k n with h1 | h1
      · exact absurd (h.bd (d + n) (by omega)) hd2.1
      · exact h1
    refine ⟨(s - co m) k, ?_⟩
    rw [e2, Nat.add_comm k d]
    exact (mul_bd (dq.2) (hn.2.le (by omega : n + 1 ≤ k + 1))).2
/-- The end of Divide: what is left is 0, or nothing divides. -/
theorem DvI.last (h : DvI P Q m R d 0) (hQ : Q.length = d + 1) (h0 : (co Q) d ≠ 0) : co R = c 0 ∧ co P = co Q * co m ∨ co R ≠ c 0 ∧ ¬ Dv (co Q) (co P) := by
  by_cases hz : co R = c 0
  · exact .inl ⟨hz, by rw [h.eq, hz, add_zero]⟩
  · refine .inr ⟨hz, fun hd => ?_⟩
    obtain ⟨s, hs, e⟩ := hd
    have dq : Dg (co Q) d := ⟨h0, (co_bd Q).le (by omega)⟩
    have := (div_uniq dq (co_fn m) hs h.bd (Bd.c0 d) (by rw [add_zero, ← e, h.eq])).2
    exact hz this
/-- The quotient's list is in normal form. -/
theorem quo_nm (hP : Nm P) (hQ : Q.length = d + 1) (hm : m.length = P.length - d) (e : co P = co Q * co m) : Nm m := by
  intro hh
  have hm0 : m ≠ [] := fun e => by rw [e] at hh; simp at hh
  have hl := List.length_pos_iff.2 hm0
  rw [List.getLast?_eq_getElem?, List.getElem?_eq_getElem (by omega)] at hh
  injection hh with hh
  have hb : Bd (co m) (m.length - 1) := fun i hi => by
    rcases Nat.lt_or_ge i m.length with h1 | h1
    · obtain rfl : i = m.length - 1 := by omega
      rw [co_at h1]; exact hh
    · exact co_out h1
  have hP0 : P ≠ [] := fun e => by rw [e, List.length_nil] at hm; omega
  have hd := nm_dg hP hP0
  rw [e] at hd
  by_cases h1 : m.length = 1
  · have : co m = c 0 := by rw [h1] at hb; exact hb.zero
    rw [this, mul_zero] at hd
    exact hd.1 (by cases (P.length - 1) <;> rfl)
  · have := (mul_bd (p := co Q) (m := d) ((co_bd Q).le (by omega)) (n := m.length - 2) (hb.le (by omega))).1
    exact hd.1 (this _ (by omega))
/-- Rest: the state when k places are left; c is the leading coefficient, i steps are done. -/
structure ReI (P Q R t : List Int) (d k i : Nat) (S u : Se) : Prop where
  eq : sm ((co Q) d ^ i) (co P) = co Q * u + S
  bd : Bd S (d + k)
  low : ∀ j, j < k → (co R) j = (co P) j
  lowS : ∀ j, j < k → S j = (co Q) d ^ i * (co P) j
  mid : ∀ j, k ≤ j → j < d + k → S j = (co R) j
  z : ∀ j, j < k → u j = 0
  v : ∀ j, k ≤ j → u j = (co t) j * (co Q) d ^ (j - k)
/-- The next rest. -/
def nxS (Q : List Int) (d k : Nat) (S : Se) : Se := sm ((co Q) d) S - mo k (S (k + d)) * co Q
theorem nxS_at (hQ : Q.length = d + 1) (S : Se) (j : Nat) : (nxS Q d k S) j = (co Q) d * S j - (if j < k then 0 else S (k + d) * (co Q) (j - k)) := by
  rw [nxS, sub_at, sm_at, mo_mul_at]
theorem ReI.step {u : Se} {t : List Int} (h : ReI P Q R t d (k + 1) i S u) (hQ : Q.length = d + 1) (hk : k < t.length) (hR : ∀ j, j < k + d → (co R2) j = if j < k then (co R) j else (co Q) d * S j - S (k + d) * (co Q) (j - k)) :
    ReI P Q R2 (t.set k (S (k + d))) d k (i + 1) (nxS Q d k S) (sm ((co Q) d) u + mo k (S (k + d))) := by
  refine ⟨?_, fun j hj => ?_, fun j hj => ?_, fun j hj => ?_, fun j h1 h2 => ?_, fun j hj => ?_, fun j hj => ?_⟩
  · rw [nxS, Int.pow_succ, Int.mul_comm, ← sm_sm, h.eq, sm_add, ← mul_sm, mul_add, mul_comm (mo k _), sub_eq, add_assoc, add_comm (sm _ S), ← add_assoc (co Q * mo k _), add_neg, zero_add]
  · rw [nxS_at hQ, if_neg (by omega)]
    rcases Nat.lt_or_ge (d + k) j with h1 | h1
    · rw [h.bd j (by omega), co_out (l := Q) (i := j - k) (by omega)]; simp
    · obtain rfl : j = k + d := by omega
      rw [Nat.add_sub_cancel_left, Int.mul_comm, Int.sub_self]
  · rw [hR j (by omega), if_pos hj]; exact h.low j (by omega)
  · rw [nxS_at hQ, if_pos hj, Int.sub_zero, h.lowS j (by omega), Int.pow_succ]; grind
  · rw [nxS_at hQ, if_neg (by omega), hR j (by omega), if_neg (by omega)]
  · rw [add_at, sm_at, mo_at, if_neg (by omega), h.z j (by omega)]; simp
  · rw [add_at, sm_at, mo_at, co_set_at hk]
    by_cases e : j = k
    · subst e
      rw [if_pos rfl, if_pos rfl, h.z j (by omega), Nat.sub_self]; simp
    · rw [if_neg e, if_neg e, h.v j (by omega), show j - k = j - (k + 1) + 1 by omega, Int.pow_succ]; grind
/-- The end of Rest. -/
theorem ReI.last {u : Se} {t : List Int} (h : ReI P Q R t d 0 T S u) : sm ((co Q) d ^ T) (co P) = co Q * pu (co t) (xc ((co Q) d)) + co (R.take d) ∧ Bd (co (R.take d)) d := by
  have e1 : u = pu (co t) (xc ((co Q) d)) := ext fun j => by
    rw [pu_xc_at _ _ (co_fn t), h.v j (Nat.zero_le _), Nat.sub_zero]
  have e2 : S = co (R.take d) := ext fun j => by
    rw [co_take_at]
    by_cases hj : j < d
    · rw [if_pos hj]; exact h.mid j (Nat.zero_le _) (by omega)
    · rw [if_neg hj]; exact h.bd j (by omega)
  rw [← e1, ← e2]
  exact ⟨h.eq, h.bd⟩
theorem ReI.first (P Q t : List Int) (d k : Nat) (hb : P.length ≤ d + k) (ht : co t = c 0) : ReI P Q P t d k 0 (co P) (c 0) := by
  refine ⟨by rw [Int.pow_zero, sm_one, mul_zero, zero_add], (co_bd P).le hb, fun _ _ => rfl, fun j _ => by rw [Int.pow_zero, Int.one_mul], fun _ _ _ => rfl, fun j _ => by cases j <;> rfl, fun j _ => ?_⟩
  rw [ht]; cases j <;> simp [c_0, c_at]
theorem DvI.first (P Q t : List Int) (d k : Nat) (hb : P.length ≤ d + k) (ht : co t = c 0) : DvI P Q t P d k :=
  ⟨by rw [ht, mul_zero, zero_add], (co_bd P).le hb, fun i _ => by rw [ht]; cases i <;> rfl⟩
end Se
end Go.Proofs.Ytnidohbbimfpjaa.MP
