/-
  Numbers as lists of digits of a base, the least first: values, canonical digits. Plain mathematics; nothing of the program.
-/
namespace Go.Proofs.YtcoidcbbdibnaaaDoor

/-- The value of a list of digits. -/
def vl (b : Nat) : List Int → Nat
  | [] => 0
  | x :: l => x.toNat + b * vl b l

/-- All digits lie below the base. -/
def Lim (b : Nat) (l : List Int) : Prop := ∀ x ∈ l, 0 ≤ x ∧ x < (b : Int)

/-- The digits of a number, without noughts on top. -/
def dg (b n : Nat) : List Int := if _h : n = 0 ∨ b < 2 then [] else ((n % b : Nat) : Int) :: dg b (n / b)
termination_by n
decreasing_by exact Nat.div_lt_self (by omega) (by omega)

theorem dg_zero (b : Nat) : dg b 0 = [] := by rw [dg]; simp
theorem dg_pos {b n : Nat} (hb : 2 ≤ b) (hn : 0 < n) : dg b n = ((n % b : Nat) : Int) :: dg b (n / b) := by
  rw [dg, dif_neg (by omega)]
theorem vl_nil (b : Nat) : vl b [] = 0 := rfl
theorem vl_cons (b : Nat) (x : Int) (l : List Int) : vl b (x :: l) = x.toNat + b * vl b l := rfl
theorem Lim_nil (b : Nat) : Lim b [] := fun x hx => by cases hx
theorem Lim_cons {b : Nat} {x : Int} {l : List Int} : Lim b (x :: l) ↔ (0 ≤ x ∧ x < (b : Int)) ∧ Lim b l := by simp [Lim]
theorem Lim_append {b : Nat} {l m : List Int} : Lim b (l ++ m) ↔ Lim b l ∧ Lim b m := by
  simp only [Lim, List.mem_append]
  exact ⟨fun h => ⟨fun x hx => h x (.inl hx), fun x hx => h x (.inr hx)⟩, fun h x hx => hx.elim (h.1 x) (h.2 x)⟩
theorem Lim.take {b : Nat} {l : List Int} (h : Lim b l) (k : Nat) : Lim b (l.take k) := fun x hx => h x (List.mem_of_mem_take hx)
theorem Lim.drop {b : Nat} {l : List Int} (h : Lim b l) (k : Nat) : Lim b (l.drop k) := fun x hx => h x (List.mem_of_mem_drop hx)
theorem Lim.get {b : Nat} {l : List Int} (h : Lim b l) {k : Nat} (hk : k < l.length) : 0 ≤ l[k] ∧ l[k] < (b : Int) := h _ (List.getElem_mem hk)
theorem Lim.getD {b : Nat} {l : List Int} (h : Lim b l) (hb : 0 < b) (k : Nat) : 0 ≤ l.getD k 0 ∧ l.getD k 0 < (b : Int) := by
  by_cases hk : k < l.length
  · have := h.get hk; simpa [List.getD, List.getElem?_eq_getElem hk] using this
  · have hn : l[k]? = none := List.getElem?_eq_none (by omega)
    simp [List.getD, hn]; omega
theorem Lim.set {b : Nat} {l : List Int} (h : Lim b l) (k : Nat) {x : Int} (hx : 0 ≤ x ∧ x < (b : Int)) : Lim b (l.set k x) := fun y hy => by
  rcases List.mem_or_eq_of_mem_set hy with h1 | h1
  · exact h y h1
  · exact h1 ▸ hx
theorem Lim_replicate {b : Nat} (hb : 0 < b) (n : Nat) : Lim b (List.replicate n 0) := fun x hx => by
  have := List.eq_of_mem_replicate hx; omega

theorem vl_append (b : Nat) (l m : List Int) : vl b (l ++ m) = vl b l + b ^ l.length * vl b m := by
  induction l with
  | nil => simp [vl]
  | cons x l ih => simp only [List.cons_append, vl, ih, List.length_cons, Nat.pow_succ]; rw [Nat.mul_add, ← Nat.mul_assoc, Nat.mul_comm b (b ^ l.length)]; omega
theorem vl_replicate (b n : Nat) : vl b (List.replicate n 0) = 0 := by
  induction n with
  | zero => rfl
  | succ n ih => simp [List.replicate_succ, vl, ih]
theorem vl_lt {b : Nat} {l : List Int} (h : Lim b l) : vl b l < b ^ l.length := by
  induction l with
  | nil => simp [vl]
  | cons x l ih =>
    rw [Lim_cons] at h
    have h2 := ih h.2
    have h3 : b * (vl b l + 1) ≤ b * b ^ l.length := Nat.mul_le_mul_left _ h2
    rw [List.length_cons, Nat.pow_succ, vl, Nat.mul_comm (b ^ l.length)]
    rw [Nat.mul_add] at h3
    omega
theorem vl_split (b : Nat) (l : List Int) (k : Nat) (hk : k ≤ l.length) : vl b l = vl b (l.take k) + b ^ k * vl b (l.drop k) := by
  have := vl_append b (l.take k) (l.drop k)
  rw [List.take_append_drop, List.length_take, Nat.min_eq_left hk] at this
  exact this
theorem vl_take_succ (b : Nat) (l : List Int) (k : Nat) (hk : k < l.length) : vl b (l.take (k + 1)) = vl b (l.take k) + b ^ k * l[k].toNat := by
  rw [List.take_succ_eq_append_getElem hk, vl_append]
  simp [vl, Nat.min_eq_left (Nat.le_of_lt hk)]
theorem drop_cons {l : List Int} {k : Nat} (hk : k < l.length) : l.drop k = l[k] :: l.drop (k + 1) := by simp
theorem vl_drop_step (b : Nat) (l : List Int) (k : Nat) (hk : k < l.length) : vl b (l.drop k) = l[k].toNat + b * vl b (l.drop (k + 1)) := by
  rw [drop_cons hk]; rfl
theorem vl_zeros {b : Nat} {l : List Int} (h : ∀ x ∈ l, x = 0) : vl b l = 0 := by
  induction l with
  | nil => rfl
  | cons x l ih => simp only [vl]; rw [ih (fun y hy => h y (by simp [hy])), h x (by simp)]; simp

theorem vl_dg {b : Nat} (hb : 2 ≤ b) (n : Nat) : vl b (dg b n) = n := by
  induction n using Nat.strongRecOn with
  | ind n ih =>
    by_cases hn : n = 0
    · subst hn; rw [dg_zero]; rfl
    · rw [dg_pos hb (by omega), vl, ih _ (Nat.div_lt_self (by omega) (by omega))]
      have := Nat.mod_add_div n b
      omega
theorem Lim_dg {b : Nat} (hb : 2 ≤ b) (n : Nat) : Lim b (dg b n) := by
  induction n using Nat.strongRecOn with
  | ind n ih =>
    by_cases hn : n = 0
    · subst hn; rw [dg_zero]; exact Lim_nil b
    · rw [dg_pos hb (by omega), Lim_cons]
      have := Nat.mod_lt n (show 0 < b by omega)
      exact ⟨by omega, ih _ (Nat.div_lt_self (by omega) (by omega))⟩
theorem dg_len_le {b : Nat} (hb : 2 ≤ b) {n k : Nat} (h : n < b ^ k) : (dg b n).length ≤ k := by
  induction k generalizing n with
  | zero => simp at h; subst h; rw [dg_zero]; simp
  | succ k ih =>
    by_cases hn : n = 0
    · subst hn; rw [dg_zero]; simp
    · rw [dg_pos hb (by omega), List.length_cons]
      have : n / b < b ^ k := by rw [Nat.div_lt_iff_lt_mul (by omega), ← Nat.pow_succ]; exact h
      have := ih this
      omega
theorem dg_eq_nil {b : Nat} (hb : 2 ≤ b) {n : Nat} : dg b n = [] ↔ n = 0 := by
  constructor
  · intro h
    have := vl_dg hb n
    rw [h] at this
    simpa [vl] using this.symm
  · rintro rfl; exact dg_zero b
/-- A list without a nought on top is the digits of its value. -/
theorem dg_of {b : Nat} (hb : 2 ≤ b) {l : List Int} (h : Lim b l) (ht : ∀ x, l.getLast? = some x → x ≠ 0) : dg b (vl b l) = l := by
  induction l with
  | nil => exact dg_zero b
  | cons x l ih =>
    rw [Lim_cons] at h
    have hx : (x.toNat : Int) = x := by omega
    have hxb : x.toNat < b := by omega
    have hl : dg b (vl b l) = l := ih h.2 (fun y hy => ht y (by
      cases l with
      | nil => simp at hy
      | cons z l => simpa using hy))
    have hpos : 0 < vl b (x :: l) := by
      rcases Nat.eq_zero_or_pos (vl b (x :: l)) with h0 | h0
      · exfalso
        simp only [vl] at h0
        have h1 : x.toNat = 0 := by omega
        have h2 : b * vl b l = 0 := by omega
        have h3 : vl b l = 0 := by rcases Nat.mul_eq_zero.1 h2 with h | h <;> omega
        rw [h3, dg_zero] at hl
        subst hl
        exact ht x (by simp) (by omega)
      · exact h0
    rw [dg_pos hb hpos]
    have e1 : vl b (x :: l) % b = x.toNat := by simp only [vl]; rw [Nat.add_mul_mod_self_left]; exact Nat.mod_eq_of_lt hxb
    have e2 : vl b (x :: l) / b = vl b l := by
      simp only [vl]; rw [Nat.add_mul_div_left _ _ (by omega), Nat.div_eq_of_lt hxb]; omega
    rw [e1, e2, hl, hx]
/-- What is left of a list without its noughts on top. -/
theorem dg_take {b : Nat} (hb : 2 ≤ b) {l : List Int} (h : Lim b l) {m : Nat} (hm : m ≤ l.length) (hz : ∀ j (hj : j < l.length), m ≤ j → l[j] = 0)
    (ht : ∀ h : 0 < m, l[m - 1] ≠ 0) : dg b (vl b l) = l.take m := by
  have hv : vl b (l.drop m) = 0 := vl_zeros fun x hx => by
    obtain ⟨i, hi, rfl⟩ := List.mem_iff_getElem.1 hx
    rw [List.getElem_drop]; exact hz _ _ (by omega)
  rw [vl_split b l m hm, hv, Nat.mul_zero, Nat.add_zero]
  refine dg_of hb (h.take m) fun x hx => ?_
  rcases Nat.eq_zero_or_pos m with h0 | h0
  · subst h0; simp at hx
  · have hmm : m - 1 < l.length := by omega
    have : (l.take m).getLast? = some l[m - 1] := by
      rw [List.getLast?_eq_getElem?, List.length_take, Nat.min_eq_left hm, List.getElem?_take_of_lt (by omega), List.getElem?_eq_getElem hmm]
    rw [this] at hx
    injection hx with hx
    subst hx
    exact ht h0
theorem dg_last {b : Nat} (hb : 2 ≤ b) {n : Nat} (hn : 0 < (dg b n).length) : (dg b n)[(dg b n).length - 1] ≠ 0 := by
  intro h0
  have hl : Lim b (dg b n) := Lim_dg hb n
  have h1 := vl_split b (dg b n) ((dg b n).length - 1) (by omega)
  have h2 : vl b ((dg b n).drop ((dg b n).length - 1)) = 0 := by
    rw [vl_drop_step b _ _ (by omega), h0, List.drop_eq_nil_of_le (by omega)]; simp [vl]
  rw [h2, vl_dg hb] at h1
  have h3 := vl_lt (hl.take ((dg b n).length - 1))
  rw [List.length_take, Nat.min_eq_left (by omega)] at h3
  have h4 := dg_len_le hb (n := n) (k := (dg b n).length - 1) (by omega)
  omega
theorem dg_len_ge {b : Nat} (hb : 2 ≤ b) {n : Nat} (hn : 0 < (dg b n).length) : b ^ ((dg b n).length - 1) ≤ n := by
  have h1 := vl_split b (dg b n) ((dg b n).length - 1) (by omega)
  have hl := dg_last hb hn
  have hg := (Lim_dg hb n).get (show (dg b n).length - 1 < (dg b n).length by omega)
  rw [vl_drop_step b _ _ (by omega), vl_dg hb] at h1
  have h5 : b ^ ((dg b n).length - 1) * 1 ≤ b ^ ((dg b n).length - 1) * ((dg b n)[(dg b n).length - 1].toNat + b * vl b ((dg b n).drop ((dg b n).length - 1 + 1))) := Nat.mul_le_mul_left _ (by omega)
  omega
theorem dg_len_mono {b : Nat} (hb : 2 ≤ b) {m n : Nat} (h : m ≤ n) : (dg b m).length ≤ (dg b n).length := by
  refine dg_len_le hb ?_
  have := vl_lt (Lim_dg hb n)
  rw [vl_dg hb] at this
  omega
theorem dg_inj {b : Nat} (hb : 2 ≤ b) {m n : Nat} (h : dg b m = dg b n) : m = n := by rw [← vl_dg hb m, h, vl_dg hb]
theorem vl_set (b : Nat) (l : List Int) (k : Nat) (hk : k < l.length) (x : Int) : vl b (l.set k x) + b ^ k * l[k].toNat = vl b l + b ^ k * x.toNat := by
  have h1 := vl_split b l k (by omega)
  have h2 := vl_split b (l.set k x) k (by simp; omega)
  rw [vl_drop_step b l k hk] at h1
  rw [vl_drop_step b (l.set k x) k (by simpa using hk)] at h2
  have e1 : (l.set k x).take k = l.take k := by rw [List.take_set_of_le (Nat.le_refl k)]
  have e2 : (l.set k x).drop (k + 1) = l.drop (k + 1) := by rw [List.drop_set_of_lt (by omega)]
  rw [e1, e2, List.getElem_set_self, Nat.mul_add] at h2
  rw [Nat.mul_add] at h1
  omega

end Go.Proofs.YtcoidcbbdibnaaaDoor
