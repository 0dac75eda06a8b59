/-
  determinants of integer matrices; Bareiss elimination.
-/
import Derived.Test.YtnidohbbimfpjaaZsto
namespace Go.Proofs.Ytnidohbbimfpjaa.MD
set_option linter.unusedVariables false
set_option linter.unusedSimpArgs false
/-- The sum of the first n numbers f. -/
def sm : Nat → (Nat → Int) → Int
  | 0, _ => 0
  | n + 1, f => sm n f + f n
/-- A matrix of integers, of any size. -/
abbrev Mx := Nat → Nat → Int
/-- The sign of a place. -/
def sg (k : Nat) : Int := if k % 2 = 0 then 1 else -1
/-- All places but k, in their order. -/
def dl (k j : Nat) : Nat := if j < k then j else j + 1
/-- A matrix without a row and a column. -/
def mn (A : Mx) (i k : Nat) : Mx := fun r c => A (dl i r) (dl k c)
/-- The determinant of the first n rows and columns, by its first row. -/
def det : Nat → Mx → Int
  | 0, _ => 1
  | n + 1, A => sm (n + 1) fun k => sg k * A 0 k * det n (mn A 0 k)
/-- The matrix turned. -/
def tr (A : Mx) : Mx := fun i k => A k i
/-- A column set. -/
def sc (A : Mx) (j : Nat) (u : Nat → Int) : Mx := fun i k => if k = j then u i else A i k
/-- A row set. -/
def sr (A : Mx) (i : Nat) (u : Nat → Int) : Mx := fun r k => if r = i then u k else A r k
/-- The matrix with 1 in its diagonal. -/
def one : Mx := fun i k => if i = k then 1 else 0
theorem sm_congr {n : Nat} {f g : Nat → Int} (h : ∀ k, k < n → f k = g k) : sm n f = sm n g := by
  induction n with
  | zero => rfl
  | succ n ih => simp only [sm]; rw [ih fun k hk => h k (by omega), h n (by omega)]
theorem sm_add (n : Nat) (f g : Nat → Int) : (sm n fun k => f k + g k) = sm n f + sm n g := by
  induction n with
  | zero => rfl
  | succ n ih => simp only [sm]; rw [ih]; omega
theorem sm_mul (n : Nat) (a : Int) (f : Nat → Int) : (sm n fun k => a * f k) = a * sm n f := by
  induction n with
  | zero => simp [sm]
  | succ n ih => simp only [sm]; rw [ih, Int.mul_add]
theorem sm_mulr (n : Nat) (a : Int) (f : Nat → Int) : (sm n fun k => f k * a) = sm n f * a := by
  rw [Int.mul_comm, ← sm_mul]; exact sm_congr fun k _ => Int.mul_comm _ _
theorem sm_zero (n : Nat) : (sm n fun _ => 0) = 0 := by
  induction n with
  | zero => rfl
  | succ n ih => simp only [sm]; rw [ih]; rfl
theorem sm_nil {n : Nat} {f : Nat → Int} (h : ∀ k, k < n → f k = 0) : sm n f = 0 := by rw [sm_congr h, sm_zero]
theorem sm_one {n j : Nat} {f : Nat → Int} (hj : j < n) (h : ∀ k, k < n → k ≠ j → f k = 0) : sm n f = f j := by
  induction n with
  | zero => omega
  | succ n ih =>
    simp only [sm]
    by_cases e : j = n
    · subst e; rw [sm_nil fun k hk => h k (by omega) (by omega)]; omega
    · rw [ih (by omega) fun k hk hk2 => h k (by omega) hk2, h n (by omega) (by omega)]; omega
theorem sm_two {n j : Nat} {f : Nat → Int} (hj : j + 1 < n) (h : ∀ k, k < n → k ≠ j → k ≠ j + 1 → f k = 0) : sm n f = f j + f (j + 1) := by
  induction n with
  | zero => omega
  | succ n ih =>
    simp only [sm]
    by_cases e : j + 1 = n
    · subst e
      rw [sm_one (j := j) (by omega) fun k hk hk2 => h k (by omega) hk2 (by omega)]
    · rw [ih (by omega) fun k hk hk2 hk3 => h k (by omega) hk2 hk3, h n (by omega) (by omega) (by omega)]; omega
theorem sm_cut {n s : Nat} {f : Nat → Int} (hs : s ≤ n) (h : ∀ k, s ≤ k → k < n → f k = 0) : sm n f = sm s f := by
  induction n with
  | zero => rw [show s = 0 by omega]
  | succ n ih =>
    by_cases e : s = n + 1
    · rw [e]
    · simp only [sm]; rw [ih (by omega) fun k h1 h2 => h k h1 (by omega), h n (by omega) (by omega)]; omega
theorem sm_comm (n m : Nat) (f : Nat → Nat → Int) : (sm n fun i => sm m fun k => f i k) = sm m fun k => sm n fun i => f i k := by
  induction n with
  | zero => simp only [sm]; rw [sm_zero]
  | succ n ih => simp only [sm]; rw [ih, ← sm_add]
/-- The first one apart. -/
theorem sm_first (n : Nat) (f : Nat → Int) : sm (n + 1) f = f 0 + sm n fun k => f (k + 1) := by
  induction n with
  | zero => simp only [sm]; omega
  | succ n ih => rw [sm, ih]; simp only [sm]; omega
theorem sg_s (k : Nat) : sg (k + 1) = -sg k := by unfold sg; split <;> split <;> omega
theorem sg_0 : sg 0 = 1 := rfl
theorem sg_add (i k : Nat) : sg (i + k) = sg i * sg k := by
  induction k with
  | zero => rw [Nat.add_zero, sg_0, Int.mul_one]
  | succ k ih => rw [← Nat.add_assoc, sg_s, ih, sg_s, Int.mul_neg]
theorem sg_sq (i : Nat) : sg i * sg i = 1 := by unfold sg; split <;> rfl
theorem sg_ne (i : Nat) : sg i ≠ 0 := by unfold sg; split <;> decide
theorem dl_lt {k j : Nat} (h : j < k) : dl k j = j := if_pos h
theorem dl_ge {k j : Nat} (h : k ≤ j) : dl k j = j + 1 := if_neg (by omega)
theorem dl_ne (k j : Nat) : dl k j ≠ k := by unfold dl; split <;> omega
theorem dl_bd {k j n : Nat} (h : j < n) : dl k j < n + 1 := by unfold dl; split <;> omega
theorem dl_inj {k i j : Nat} (h : dl k i = dl k j) : i = j := by unfold dl at h; split at h <;> split at h <;> omega
theorem det_congr {n : Nat} {A B : Mx} (h : ∀ i k, i < n → k < n → A i k = B i k) : det n A = det n B := by
  induction n generalizing A B with
  | zero => rfl
  | succ n ih =>
    refine sm_congr fun k hk => ?_
    rw [h 0 k (by omega) hk, ih (A := mn A 0 k) (B := mn B 0 k) fun i c hi hc => h _ _ (dl_bd hi) (dl_bd hc)]
/-- Linear in a column. -/
theorem det_lin {n j : Nat} {A B C : Mx} {a b : Int} (hj : j < n) (h : ∀ i k, i < n → k < n → k ≠ j → A i k = C i k ∧ B i k = C i k) (h2 : ∀ i, i < n → C i j = a * A i j + b * B i j) :
    det n C = a * det n A + b * det n B := by
  induction n generalizing A B C j with
  | zero => omega
  | succ n ih =>
    simp only [det]
    rw [← sm_mul, ← sm_mul, ← sm_add]
    refine sm_congr fun k hk => ?_
    by_cases e : k = j
    · subst e
      have e1 : det n (mn A 0 k) = det n (mn C 0 k) := det_congr fun i c hi hc => (h _ _ (dl_bd hi) (dl_bd hc) (dl_ne _ _)).1
      have e2 : det n (mn B 0 k) = det n (mn C 0 k) := det_congr fun i c hi hc => (h _ _ (dl_bd hi) (dl_bd hc) (dl_ne _ _)).2
      rw [e1, e2, h2 0 (by omega)]
      grind
    · obtain ⟨j', hj', e'⟩ : ∃ j', j' < n ∧ dl k j' = j := by
        by_cases h3 : j < k
        · exact ⟨j, by omega, dl_lt h3⟩
        · exact ⟨j - 1, by omega, by rw [dl_ge (by omega)]; omega⟩
      have := ih (A := mn A 0 k) (B := mn B 0 k) (C := mn C 0 k) hj' (fun i c hi hc hcj => h _ _ (dl_bd hi) (dl_bd hc) fun e3 => hcj (dl_inj (e3.trans e'.symm))) (fun i hi => by
        simp only [mn]; rw [e']; exact h2 _ (dl_bd hi))
      rw [this, (h 0 k (by omega) hk e).1, (h 0 k (by omega) hk e).2]
      grind
/-- Two columns side by side that are the same. -/
theorem det_adj {n j : Nat} {A : Mx} (hj : j + 1 < n) (h : ∀ i, i < n → A i j = A i (j + 1)) : det n A = 0 := by
  induction n generalizing A j with
  | zero => omega
  | succ n ih =>
    simp only [det]
    rw [sm_two hj]
    · have e1 : det n (mn A 0 j) = det n (mn A 0 (j + 1)) := det_congr fun i c hi hc => by
        simp only [mn]
        by_cases e : c = j
        · subst e; rw [dl_ge (Nat.le_refl _), dl_lt (Nat.lt_succ_self _)]; exact (h _ (dl_bd hi)).symm
        · congr 1; unfold dl; split <;> split <;> omega
      rw [e1, h 0 (by omega), sg_s]
      grind
    · intro k hk h1 h2
      have : det n (mn A 0 k) = 0 := by
        by_cases h3 : j + 1 < k
        · exact ih (j := j) (by omega) fun i hi => by
            simp only [mn]; rw [dl_lt (k := k) (j := j) (by omega), dl_lt (k := k) (j := j + 1) h3]; exact h _ (dl_bd hi)
        · exact ih (j := j - 1) (by omega) fun i hi => by
            simp only [mn]; rw [dl_ge (k := k) (j := j - 1) (by omega), dl_ge (k := k) (j := j - 1 + 1) (by omega), show j - 1 + 1 = j by omega]; exact h _ (dl_bd hi)
      rw [this, Int.mul_zero]
/-- A function of the first n rows that is linear in each of them, and 0 where two side by side are the same. -/
structure Alt (n : Nat) (F : Mx → Int) : Prop where
  congr : ∀ A B : Mx, (∀ i k, i < n → k < n → A i k = B i k) → F A = F B
  lin : ∀ (i : Nat) (A B C : Mx) (a b : Int), i < n → (∀ r k, r < n → k < n → r ≠ i → A r k = C r k ∧ B r k = C r k) → (∀ k, k < n → C i k = a * A i k + b * B i k) → F C = a * F A + b * F B
  adj : ∀ (i : Nat) (A : Mx), i + 1 < n → (∀ k, k < n → A i k = A (i + 1) k) → F A = 0
/-- Two rows changed about. -/
def sw (A : Mx) (i k : Nat) : Mx := fun r c => if r = i then A k c else if r = k then A i c else A r c
section
variable {n : Nat} {F : Mx → Int} (T : Alt n F)
include T
theorem Alt.sum2 {i k : Nat} (hi : i < n) (hk : k < n) (hik : i ≠ k) (hz : ∀ A : Mx, (∀ c, c < n → A i c = A k c) → F A = 0) (A : Mx) : F (sw A i k) = -F A := by
  let P : (Nat → Int) → (Nat → Int) → Int := fun u v => F (sr (sr A i u) k v)
  have hPl : ∀ u u' v, P (fun c => u c + u' c) v = P u v + P u' v := fun u u' v => by
    have := T.lin i (sr (sr A i u) k v) (sr (sr A i u') k v) (sr (sr A i fun c => u c + u' c) k v) 1 1 hi (fun r c _ _ hr => by simp [sr, hr]) (fun c _ => by simp [sr, hik])
    simp only [Int.one_mul] at this
    exact this
  have hPr : ∀ u v v', P u (fun c => v c + v' c) = P u v + P u v' := fun u v v' => by
    have := T.lin k (sr (sr A i u) k v) (sr (sr A i u) k v') (sr (sr A i u) k fun c => v c + v' c) 1 1 hk (fun r c _ _ hr => by simp [sr, hr]) (fun c _ => by simp [sr])
    simp only [Int.one_mul] at this
    exact this
  have h0 : ∀ u, P u u = 0 := fun u => hz _ fun c _ => by simp [sr, hik]
  have e1 : F A = P (A i) (A k) := T.congr _ _ fun r c _ _ => by simp only [sr]; split <;> (try split) <;> simp_all
  have e2 : F (sw A i k) = P (A k) (A i) := T.congr _ _ fun r c _ _ => by
    simp only [sr, sw]
    by_cases h1 : r = k
    · subst h1; simp [Ne.symm hik]
    · by_cases h2 : r = i
      · subst h2; simp [hik]
      · simp [h1, h2]
  have e3 := h0 fun c => A i c + A k c
  rw [hPl, hPr, hPr, h0, h0] at e3
  rw [e1, e2]; omega
theorem Alt.same {i k : Nat} (hik : i < k) (hk : k < n) {A : Mx} (h : ∀ c, c < n → A i c = A k c) : F A = 0 := by
  induction k generalizing A with
  | zero => omega
  | succ k ih =>
    by_cases e : i = k
    · subst e; exact T.adj i A hk h
    · have h2 := T.sum2 (i := k) (k := k + 1) (by omega) hk (by omega) (fun B hB => T.adj k B hk hB) A
      have h3 := ih (A := sw A k (k + 1)) (by omega) (by omega) fun c hc => by simp [sw, e, show i ≠ k + 1 by omega]; exact h c hc
      omega
theorem Alt.eq {i k : Nat} (hik : i ≠ k) (hi : i < n) (hk : k < n) {A : Mx} (h : ∀ c, c < n → A i c = A k c) : F A = 0 := by
  rcases Nat.lt_or_gt_of_ne hik with h1 | h1
  · exact T.same h1 hk h
  · exact T.same h1 hi fun c hc => (h c hc).symm
theorem Alt.swap {i k : Nat} (hik : i ≠ k) (hi : i < n) (hk : k < n) (A : Mx) : F (sw A i k) = -F A := T.sum2 hi hk hik (fun B hB => T.eq hik hi hk hB) A
/-- A row of noughts. -/
theorem Alt.null {i : Nat} (hi : i < n) {A : Mx} (h : ∀ c, c < n → A i c = 0) : F A = 0 := by
  have := T.lin i A A A 0 0 hi (fun _ _ _ _ _ => ⟨rfl, rfl⟩) (fun c hc => by rw [h c hc]; rfl)
  simpa using this
theorem Alt.scale {i : Nat} (hi : i < n) (A : Mx) (a : Int) : F (sr A i fun c => a * A i c) = a * F A := by
  have := T.lin i A A (sr A i fun c => a * A i c) a 0 hi (fun r c _ _ hr => by simp [sr, hr]) (fun c hc => by simp [sr])
  simpa using this
/-- A multiple of one row more in another one. -/
theorem Alt.more {i k : Nat} (hik : i ≠ k) (hi : i < n) (hk : k < n) (A : Mx) (a : Int) : F (sr A i fun c => A i c + a * A k c) = F A := by
  have := T.lin i A (sr A i (A k)) (sr A i fun c => A i c + a * A k c) 1 a hi (fun r c _ _ hr => by simp [sr, hr]) (fun c hc => by simp [sr])
  rw [this, T.eq (A := sr A i (A k)) hik hi hk fun c hc => by simp [sr, Ne.symm hik]]
  omega
/-- A row that is a sum. -/
theorem Alt.sum {i : Nat} (hi : i < n) (A : Mx) (m : Nat) (a : Nat → Int) (u : Nat → Nat → Int) : F (sr A i fun c => sm m fun k => a k * u k c) = sm m fun k => a k * F (sr A i (u k)) := by
  induction m with
  | zero => simp only [sm]; exact T.null hi fun c _ => by simp [sr]
  | succ m ih =>
    simp only [sm]
    rw [← ih]
    have := T.lin i (sr A i fun c => sm m fun k => a k * u k c) (sr A i (u m)) (sr A i fun c => (sm m fun k => a k * u k c) + a m * u m c) 1 (a m) hi (fun r c _ _ hr => by simp [sr, hr]) (fun c hc => by simp [sr])
    rw [this]; omega
end
end Go.Proofs.Ytnidohbbimfpjaa.MD
namespace Go.Proofs.Ytnidohbbimfpjaa.MD
set_option linter.unusedVariables false
set_option linter.unusedSimpArgs false
/-- A smaller matrix with a row ahead that has its 1 in column k, and that column besides. -/
def emb (k : Nat) (M : Mx) : Mx := fun i j => match i with
  | 0 => if j = k then 1 else 0
  | i + 1 => if j = k then 0 else M i (if j < k then j else j - 1)
theorem Alt.emb {n k : Nat} {F : Mx → Int} (T : Alt (n + 1) F) (hk : k < n + 1) : Alt n fun M => F (emb k M) where
  congr A B h := T.congr _ _ fun i j hi hj => by
    cases i with
    | zero => rfl
    | succ i =>
      simp only [MD.emb]
      split
      · rfl
      · exact h _ _ (by omega) (by split <;> omega)
  lin i A B C a b hi h h2 := T.lin (i + 1) _ _ _ a b (by omega) (fun r j hr hj hri => by
      cases r with
      | zero => exact ⟨rfl, rfl⟩
      | succ r =>
        simp only [MD.emb]
        split
        · exact ⟨rfl, rfl⟩
        · exact h _ _ (by omega) (by split <;> omega) (by omega)) (fun j hj => by
      simp only [MD.emb]
      by_cases e : j = k
      · rw [if_pos e, if_pos e, if_pos e]; simp
      · rw [if_neg e, if_neg e, if_neg e]; exact h2 _ (by split <;> omega))
  adj i A hi h := T.adj (i + 1) _ (by omega) fun j hj => by
      simp only [MD.emb]
      by_cases e : j = k
      · rw [if_pos e, if_pos e]
      · rw [if_neg e, if_neg e]; exact h _ (by split <;> omega)
theorem Alt.emb_one {n : Nat} {F : Mx → Int} (T : Alt (n + 1) F) : ∀ {k : Nat}, k < n + 1 → F (MD.emb k one) = sg k * F one
  | 0, hk => by
    rw [sg_0, Int.one_mul]
    refine T.congr _ _ fun i j hi hj => ?_
    cases i with
    | zero => cases j <;> simp [MD.emb, one]
    | succ i => cases j <;> simp [MD.emb, one]
  | k + 1, hk => by
    have h := Alt.emb_one T (k := k) (by omega)
    have h2 := T.swap (i := 0) (k := k + 1) (by omega) (by omega) hk (MD.emb k one)
    have h3 : F (MD.emb (k + 1) one) = F (sw (MD.emb k one) 0 (k + 1)) := T.congr _ _ fun i j hi hj => by
      cases i with
      | zero => simp only [sw, MD.emb, one, if_true]; grind
      | succ i => simp only [sw, MD.emb, one, Nat.succ_ne_zero, if_false]; grind
    rw [h3, h2, h, sg_s]
    grind
/-- A column is cleared by the row ahead. -/
theorem Alt.clear {n k : Nat} {F : Mx → Int} (T : Alt (n + 1) F) (hk : k < n + 1) (A : Mx) : F (sr A 0 (one k)) = F (MD.emb k (mn A 0 k)) := by
  let B : Nat → Mx := fun m i j => if i = 0 then one k j else if i ≤ m ∧ j = k then 0 else A i j
  have h0 : F (sr A 0 (one k)) = F (B 0) := T.congr _ _ fun i j hi hj => by
    simp only [sr, B]
    split
    · rfl
    · rw [if_neg (by omega)]
  have hs : ∀ m, m ≤ n → F (B m) = F (B 0) := fun m hm => by
    induction m with
    | zero => rfl
    | succ m ih =>
      rw [← ih (by omega), ← T.more (i := m + 1) (k := 0) (by omega) (by omega) (by omega) (B m) (-A (m + 1) k)]
      refine T.congr _ _ fun i j hi hj => ?_
      simp only [sr, B]
      by_cases e : i = 0
      · subst e; simp
      · by_cases e2 : i = m + 1
        · subst e2
          by_cases e3 : j = k
          · subst e3; simp [one]; omega
          · simp [e3, one, show ¬ k = j by omega]
        · simp only [e, e2, if_false]
          by_cases e3 : i ≤ m ∧ j = k
          · rw [if_pos e3, if_pos (by omega)]
          · rw [if_neg e3, if_neg (by omega)]
  rw [h0, ← hs n (Nat.le_refl _)]
  refine T.congr _ _ fun i j hi hj => ?_
  simp only [B]
  cases i with
  | zero => simp only [MD.emb, if_true, one]; congr 1; apply propext; omega
  | succ i =>
    simp only [MD.emb, Nat.succ_ne_zero, if_false, mn]
    by_cases e : j = k
    · rw [if_pos (by omega), if_pos e]
    · rw [if_neg (by omega), if_neg e, dl_ge (by omega)]
      by_cases e2 : j < k
      · rw [if_pos e2, dl_lt e2]
      · rw [if_neg e2, dl_ge (k := k) (by omega), show j - 1 + 1 = j by omega]
/-- There is but one such function, as far as it goes at the matrix of ones. -/
theorem Alt.det : ∀ {n : Nat} {F : Mx → Int}, Alt n F → ∀ A : Mx, F A = F one * det n A
  | 0, F, T, A => by rw [T.congr A one fun i k hi => by omega]; simp [MD.det]
  | n + 1, F, T, A => by
    have h1 : F A = F (sr A 0 fun c => sm (n + 1) fun k => A 0 k * one k c) := T.congr _ _ fun i c hi hc => by
      simp only [sr]
      split
      · next e =>
        subst e
        rw [sm_one (j := c) hc fun k _ hk2 => by simp [one, hk2]]
        simp [one]
      · rfl
    rw [h1, T.sum (by omega)]
    simp only [MD.det]
    rw [← sm_mul]
    refine sm_congr fun k hk => ?_
    rw [T.clear hk, Alt.det (T.emb hk), T.emb_one hk]
    grind
theorem det_one : ∀ n, det n one = 1
  | 0 => rfl
  | n + 1 => by
    simp only [det]
    rw [sm_one (j := 0) (by omega) fun k _ hk => by simp [one, Ne.symm hk]]
    rw [det_congr (B := one) fun i c hi hc => by simp [mn, dl, one], det_one n]
    simp [sg, one]
theorem alt_tr (n : Nat) : Alt n fun A => det n (tr A) where
  congr A B h := det_congr fun i k hi hk => h k i hk hi
  lin i A B C a b hi h h2 := det_lin hi (fun r k hr hk hri => h k r hk hr hri) fun k hk => h2 k hk
  adj i A hi h := det_adj hi fun k hk => h k hk
theorem det_tr (n : Nat) (A : Mx) : det n (tr A) = det n A := by
  rw [(alt_tr n).det A, det_congr (A := tr one) (B := one) fun i k _ _ => by simp [tr, one, eq_comm], det_one, Int.one_mul]
theorem alt_det (n : Nat) : Alt n (det n) := by
  have h := alt_tr n
  rwa [show (fun A => det n (tr A)) = det n from funext fun A => det_tr n A] at h
/-- The product, with m in between. -/
def mul (m : Nat) (A B : Mx) : Mx := fun i k => sm m fun j => A i j * B j k
theorem det_mul (n : Nat) (A B : Mx) : det n (mul n A B) = det n A * det n B := by
  have T : Alt n fun A => det n (mul n A B) := {
    congr := fun A A' h => det_congr fun i k hi hk => sm_congr fun j hj => by rw [h i j hi hj]
    lin := fun i A A' C a b hi h h2 => (alt_det n).lin i _ _ _ a b hi (fun r k hr hk hri => ⟨sm_congr fun j hj => by rw [(h r j hr hj hri).1], sm_congr fun j hj => by rw [(h r j hr hj hri).2]⟩) (fun k hk => by
      simp only [mul]
      rw [← sm_mul, ← sm_mul, ← sm_add]
      exact sm_congr fun j hj => by rw [h2 j hj]; grind)
    adj := fun i A hi h => (alt_det n).adj i _ hi fun k hk => sm_congr fun j hj => by rw [h j hj] }
  rw [T.det A, Int.mul_comm]
  congr 1
  refine det_congr fun i k hi hk => ?_
  simp only [mul]
  rw [sm_one (j := i) hi fun j _ hj => by simp [one, Ne.symm hj]]
  simp [one]
theorem mul_tr (m : Nat) (A B : Mx) : tr (mul m A B) = mul m (tr B) (tr A) := by
  funext i k
  exact sm_congr fun j _ => Int.mul_comm _ _
theorem mul_assoc (m n : Nat) (A B C : Mx) : mul n (mul m A B) C = mul m A (mul n B C) := by
  funext i k
  simp only [mul]
  have h1 : (sm n fun j => (sm m fun l => A i l * B l j) * C j k) = sm n fun j => sm m fun l => A i l * B l j * C j k := sm_congr fun j _ => (sm_mulr _ _ _).symm
  have h2 : (sm m fun l => A i l * sm n fun j => B l j * C j k) = sm m fun l => sm n fun j => A i l * B l j * C j k := sm_congr fun l _ => by rw [← sm_mul]; exact sm_congr fun j _ => (Int.mul_assoc _ _ _).symm
  rw [h1, h2, sm_comm]
/-- Through fewer there is nothing. -/
theorem det_thin {s n : Nat} (h : s < n) (A B : Mx) : det n (mul s A B) = 0 := by
  have e : det n (mul s A B) = det n (mul n (fun i j => if j < s then A i j else 0) B) := det_congr fun i k _ _ => by
    simp only [mul]
    rw [sm_cut (s := s) (n := n) (by omega) fun j h1 _ => by rw [if_neg (by omega), Int.zero_mul]]
    exact sm_congr fun j hj => by rw [if_pos hj]
  rw [e, det_mul, ← det_tr, (alt_det n).null (i := s) h fun c _ => by simp [tr], Int.zero_mul]
/-- A row with a 1 alone. -/
theorem det_unit {n k : Nat} (hk : k < n + 1) : ∀ {i : Nat}, i < n + 1 → ∀ A : Mx, det (n + 1) (sr A i (one k)) = sg (i + k) * det n (mn A i k)
  | 0, hi, A => by
    simp only [det]
    rw [sm_one (j := k) hk fun j _ hj => by simp [sr, one, Ne.symm hj], Nat.zero_add]
    rw [det_congr (A := mn (sr A 0 (one k)) 0 k) (B := mn A 0 k) fun r c _ _ => by simp [mn, sr, dl]]
    simp [sr, one]
  | i + 1, hi, A => by
    have h := det_unit hk (i := i) (by omega) (sr A (i + 1) (A i))
    have h2 := (alt_det (n + 1)).swap (i := i) (k := i + 1) (by omega) (by omega) hi (sr (sr A (i + 1) (A i)) i (one k))
    rw [det_congr (A := sr A (i + 1) (one k)) (B := sw (sr (sr A (i + 1) (A i)) i (one k)) i (i + 1)) fun r c _ _ => by
      simp only [sr, sw]
      by_cases e : r = i
      · subst e; simp
      · by_cases e2 : r = i + 1
        · subst e2; simp
        · simp [e, e2], h2, h, Nat.add_right_comm, sg_s]
    rw [det_congr (A := mn (sr A (i + 1) (A i)) i k) (B := mn A (i + 1) k) fun r c _ _ => by
      simp only [mn, sr]
      by_cases e : r < i
      · rw [dl_lt e, dl_lt (k := i + 1) (j := r) (by omega), if_neg (by omega)]
      · by_cases e2 : r = i
        · subst e2; rw [dl_ge (Nat.le_refl _), dl_lt (k := r + 1) (j := r) (by omega), if_pos rfl]
        · rw [dl_ge (k := i) (j := r) (by omega), if_neg (by omega), dl_ge (k := i + 1) (j := r) (by omega)]]
    grind
theorem row_one {n : Nat} {F : Mx → Int} (T : Alt n F) {i : Nat} (A : Mx) (u : Nat → Int) : F (sr A i u) = F (sr A i fun c => sm n fun k => u k * one k c) := T.congr _ _ fun r c _ hc => by
  simp only [sr]
  split
  · rw [sm_one (j := c) hc fun k _ hk2 => by simp [one, hk2]]
    simp [one]
  · rfl
/-- By any row; a row of another matrix gives that one's determinant. -/
theorem det_row {n i : Nat} (hi : i < n + 1) (A : Mx) (u : Nat → Int) : det (n + 1) (sr A i u) = sm (n + 1) fun k => u k * (sg (i + k) * det n (mn A i k)) := by
  rw [row_one (alt_det _), (alt_det _).sum hi]
  exact sm_congr fun k hk => by rw [det_unit hk hi]
theorem sr_self (A : Mx) (i : Nat) : sr A i (A i) = A := by
  funext r c
  simp only [sr]
  split
  · next e => rw [e]
  · rfl
theorem det_exp {n i : Nat} (hi : i < n + 1) (A : Mx) : det (n + 1) A = sm (n + 1) fun k => A i k * (sg (i + k) * det n (mn A i k)) := by
  rw [← det_row hi, sr_self]
/-- A last row with nothing but its end. -/
theorem det_last {n : Nat} {A : Mx} (h : ∀ c, c < n → A n c = 0) : det (n + 1) A = A n n * det n A := by
  rw [det_exp (i := n) (by omega), sm_one (j := n) (by omega) fun k hk hk2 => by rw [h k (by omega), Int.zero_mul], sg_add, sg_sq, Int.one_mul]
  rw [det_congr (A := mn A n n) (B := A) fun i k hi hk => by simp [mn, dl, hi, hk]]
theorem sc_tr (A : Mx) (j : Nat) (u : Nat → Int) : tr (sc A j u) = sr (tr A) j u := rfl
theorem det_sc (n : Nat) (A : Mx) (j : Nat) (u : Nat → Int) : det n (sc A j u) = det n (sr (tr A) j u) := by rw [← det_tr, sc_tr]
/-- Cramer's rule. -/
theorem cramer {n u : Nat} (hu : u < n) {K : Mx} {x b : Nat → Int} {p : Int} (h : ∀ i, i < n → (sm n fun v => K i v * x v) = p * b i) : det n K * x u = p * det n (sc K u b) := by
  have T := alt_det n
  have e1 : det n (sr (tr K) u fun c => sm n fun k => x k * tr K k c) = x u * det n (tr K) := by
    rw [T.sum hu, sm_one (j := u) hu fun k hk hk2 => by rw [T.eq (i := u) (k := k) (Ne.symm hk2) hu hk fun c _ => by simp [sr, hk2], Int.mul_zero], sr_self]
  have e2 : det n (sr (tr K) u fun c => sm n fun k => x k * tr K k c) = p * det n (sr (tr K) u b) := by
    rw [← (alt_det n).scale hu (sr (tr K) u b) p]
    refine T.congr _ _ fun r c hr hc => ?_
    simp only [sr]
    split
    · rw [if_pos trivial, ← h c hc]; exact sm_congr fun k _ => Int.mul_comm _ _
    · rfl
  rw [det_sc, ← e2, e1, det_tr, Int.mul_comm]
end Go.Proofs.Ytnidohbbimfpjaa.MD
namespace Go.Proofs.Ytnidohbbimfpjaa.MD
set_option linter.unusedVariables false
set_option linter.unusedSimpArgs false
/-- Bareiss' elimination under way, s steps done: the rows stand as in A, the pivots' columns are c, the last pivot is p; g is what the numbers are. -/
structure Bs (A : Mx) (s : Nat) (c : Nat → Nat) (p : Int) (g : Mx) : Prop where
  ne : p ≠ 0
  dt : det s (fun t u => A t (c u)) = p
  hi : ∀ i j, i < s → (sm s fun u => A i (c u) * g u j) = p * A i j
  lo : ∀ i j, s ≤ i → p * A i j = (sm s fun u => A i (c u) * g u j) + g i j
/-- One column more. -/
def up (c : Nat → Nat) (s j : Nat) : Nat → Nat := fun u => if u = s then j else c u
theorem Bs.init (A : Mx) (c : Nat → Nat) : Bs A 0 c 1 A := ⟨by decide, rfl, fun i j h => by omega, fun i j _ => by simp [sm]⟩
theorem Bs.cols {A : Mx} {s : Nat} {c d : Nat → Nat} {p : Int} {g : Mx} (h : Bs A s c p g) (e : ∀ u, u < s → c u = d u) : Bs A s d p g := by
  have e1 : ∀ i j, (sm s fun u => A i (d u) * g u j) = sm s fun u => A i (c u) * g u j := fun i j => sm_congr fun u hu => by rw [e u hu]
  refine ⟨h.ne, ?_, fun i j hi => by rw [e1]; exact h.hi i j hi, fun i j hi => by rw [e1]; exact h.lo i j hi⟩
  rw [← h.dt]; exact det_congr fun i k _ hk => by rw [e k hk]
theorem Bs.swap {A : Mx} {s i0 : Nat} {c : Nat → Nat} {p : Int} {g : Mx} (h : Bs A s c p g) (h0 : s ≤ i0) : Bs (sw A s i0) s c p (sw g s i0) := by
  have e0 : ∀ (M : Mx) i, i < s → sw M s i0 i = M i := fun M i hi => by funext j; simp only [sw]; rw [if_neg (by omega), if_neg (by omega)]
  have e1 : ∀ i, s ≤ i → ∃ i', s ≤ i' ∧ ∀ M : Mx, sw M s i0 i = M i' := fun i hi => by
    by_cases h1 : i = s
    · exact ⟨i0, h0, fun M => by funext j; simp only [sw]; rw [if_pos h1]⟩
    · by_cases h2 : i = i0
      · exact ⟨s, Nat.le_refl _, fun M => by funext j; simp only [sw]; rw [if_neg h1, if_pos h2]⟩
      · exact ⟨i, hi, fun M => by funext j; simp only [sw]; rw [if_neg h1, if_neg h2]⟩
  refine ⟨h.ne, ?_, fun i j hi => ?_, fun i j hi => ?_⟩
  · rw [← h.dt]; exact det_congr fun i k hi _ => by rw [e0 A i hi]
  · rw [e0 A i hi, ← h.hi i j hi]; exact sm_congr fun u hu => by rw [e0 g u hu]
  · obtain ⟨i', h1, h2⟩ := e1 i hi
    rw [h2 A, h2 g, h.lo i' j h1]
    congr 1
    exact sm_congr fun u hu => by rw [e0 g u hu]
theorem Bs.det_up {A : Mx} {s : Nat} {c : Nat → Nat} {p : Int} {g : Mx} (h : Bs A s c p g) (j0 : Nat) : det (s + 1) (fun t u => A t (up c s j0 u)) = g s j0 := by
  have T := alt_det (s + 1)
  have e0 : ∀ u, u < s → up c s j0 u = c u := fun u hu => if_neg (by omega)
  have es : up c s j0 s = j0 := if_pos rfl
  let K : Mx := fun t u => A t (up c s j0 u)
  let a : Nat → Int := fun u => if u = s then g s j0 else g u j0
  let v : Nat → Nat → Int := fun u t => if u = s then one s t else A t (c u)
  have e1 : det (s + 1) (sr (tr K) s fun t => p * tr K s t) = p * det (s + 1) (tr K) := T.scale (by omega) _ _
  have e2 : det (s + 1) (sr (tr K) s fun t => p * tr K s t) = det (s + 1) (sr (tr K) s fun t => sm (s + 1) fun u => a u * v u t) := T.congr _ _ fun r t _ ht => by
    simp only [sr]
    split
    · simp only [sm]
      have e3 : (sm s fun u => a u * v u t) = sm s fun u => A t (c u) * g u j0 := sm_congr fun u hu => by simp only [a, v]; rw [if_neg (by omega), if_neg (by omega), Int.mul_comm]
      rw [e3]
      simp only [a, v, if_true, tr, K, es]
      by_cases hts : t = s
      · subst hts
        rw [h.lo t j0 (Nat.le_refl _)]; simp [one]
      · rw [← h.hi t j0 (by omega)]; simp [one, Ne.symm hts]
    · rfl
  have e4 : det (s + 1) (sr (tr K) s fun t => sm (s + 1) fun u => a u * v u t) = g s j0 * p := by
    rw [T.sum (by omega), sm_one (j := s) (by omega) fun u hu hus => ?_]
    · simp only [a, v, if_true]
      rw [show (fun t => one s t) = one s from rfl, det_unit (by omega) (by omega), sg_add, sg_sq, Int.one_mul]
      congr 1
      rw [← h.dt, ← det_tr]
      exact det_congr fun i k hi hk => by simp only [tr, mn, K]; rw [dl_lt hi, dl_lt hk, e0 k hk]
    · rw [T.eq (i := s) (k := u) (Ne.symm hus) (by omega) hu fun t _ => by
        simp only [sr, v, if_true, tr, K]
        rw [if_neg hus, if_neg hus, e0 u (by omega)], Int.mul_zero]
  have e5 : p * det (s + 1) K = p * g s j0 := by rw [← det_tr, ← e1, e2, e4, Int.mul_comm]
  exact Int.eq_of_mul_eq_mul_left h.ne e5
/-- One step: what is divided is divided exactly. -/
theorem Bs.step {A : Mx} {s : Nat} {c : Nat → Nat} {p : Int} {g : Mx} (h : Bs A s c p g) {j0 : Nat} (h0 : g s j0 ≠ 0) :
    ∃ g' : Mx, Bs A (s + 1) (up c s j0) (g s j0) g' ∧ (∀ j, g' s j = g s j) ∧ ∀ i j, i ≠ s → p * g' i j = g i j * g s j0 - g i j0 * g s j := by
  obtain ⟨P, hP⟩ : ∃ P, g s j0 = P := ⟨_, rfl⟩
  have e0 : ∀ u, u < s → up c s j0 u = c u := fun u hu => if_neg (by omega)
  have es : up c s j0 s = j0 := if_pos rfl
  have hdet := h.det_up j0
  rw [hP] at h0 hdet ⊢
  let K : Mx := fun t u => A t (up c s j0 u)
  let x : Nat → Nat → Int := fun j u => if u = s then p * g s j else g u j * P - g u j0 * g s j
  have hsum : ∀ i j, (sm (s + 1) fun u => A i (up c s j0 u) * x j u) = P * (sm s fun u => A i (c u) * g u j) - g s j * (sm s fun u => A i (c u) * g u j0) + A i j0 * (p * g s j) := fun i j => by
    simp only [sm]
    have e1 : (sm s fun u => A i (up c s j0 u) * x j u) = P * (sm s fun u => A i (c u) * g u j) + -(g s j) * (sm s fun u => A i (c u) * g u j0) := by
      rw [← sm_mul, ← sm_mul, ← sm_add]
      exact sm_congr fun u hu => by simp only [x]; rw [e0 u hu, if_neg (by omega)]; grind
    rw [e1]
    simp only [x, if_true, es]
    grind
  have hR : ∀ j i, i < s + 1 → (sm (s + 1) fun u => K i u * x j u) = p * P * A i j := fun j i hi => by
    show (sm (s + 1) fun u => A i (up c s j0 u) * x j u) = _
    rw [hsum]
    by_cases e : i < s
    · rw [h.hi i j e, h.hi i j0 e]; grind
    · obtain rfl : i = s := by omega
      have h1 := h.lo i j (Nat.le_refl _)
      have h2 := h.lo i j0 (Nat.le_refl _)
      rw [hP] at h2
      grind
  let y : Nat → Nat → Int := fun u j => if u = s then g s j else det (s + 1) (sc K u fun t => A t j)
  have hy : ∀ u j, u < s + 1 → p * y u j = x j u := fun u j hu => by
    by_cases e : u = s
    · simp only [y, x]; rw [if_pos e, if_pos e]
    · have h1 := cramer hu (hR j)
      rw [show det (s + 1) K = P from hdet] at h1
      simp only [y]
      rw [if_neg e]
      apply Int.eq_of_mul_eq_mul_left h0
      rw [h1]; grind
  refine ⟨fun i j => if i < s + 1 then y i j else P * A i j - sm (s + 1) fun u => A i (up c s j0 u) * y u j, ⟨h0, hdet, fun i j hi => ?_, fun i j hi => ?_⟩, fun j => ?_, fun i j hi => ?_⟩
  · apply Int.eq_of_mul_eq_mul_left h.ne
    rw [← sm_mul]
    have := hR j i hi
    rw [sm_congr (g := fun u => K i u * x j u) fun u hu => by rw [if_pos hu, ← hy u j hu]; grind, this, Int.mul_assoc]
  · rw [if_neg (by omega), sm_congr (g := fun u => A i (up c s j0 u) * y u j) fun u hu => by rw [if_pos hu]]
    omega
  · dsimp only
    rw [if_pos (by omega)]; simp only [y, if_true]
  · dsimp only
    split
    · next hlt => rw [hy i j hlt]; simp only [x]; rw [if_neg hi]
    · next hge =>
      have h1 := hsum i j
      have h2 : (sm (s + 1) fun u => A i (up c s j0 u) * x j u) = p * sm (s + 1) fun u => A i (up c s j0 u) * y u j := by
        rw [← sm_mul]; exact sm_congr fun u hu => by rw [← hy u j hu]; grind
      have h3 := h.lo i j (by omega)
      have h4 := h.lo i j0 (by omega)
      rw [Int.mul_sub, ← h2, h1]
      grind
/-- A vector that the matrix makes nothing of. -/
theorem det_null {n q : Nat} {M : Mx} {y : Nat → Int} (hq : q < n) (hy : y q ≠ 0) (h : ∀ i, i < n → (sm n fun k => M i k * y k) = 0) : det n M = 0 := by
  have := cramer (p := 0) (b := fun _ => 0) hq fun i hi => by rw [h i hi]; rfl
  rw [Int.zero_mul] at this
  rcases Int.mul_eq_zero.1 this with h1 | h1
  · exact h1
  · exact absurd h1 hy
theorem sm_dl {m k : Nat} (hk : k < m + 1) (f : Nat → Int) : sm (m + 1) f = f k + sm m fun u => f (dl k u) := by
  induction m with
  | zero =>
    obtain rfl : k = 0 := by omega
    simp [sm]
  | succ m ih =>
    by_cases e : k = m + 1
    · subst e
      rw [sm, Int.add_comm]
      congr 1
      exact sm_congr fun u hu => by rw [dl_lt hu]
    · rw [sm, ih (by omega)]
      simp only [sm]
      rw [dl_ge (k := k) (j := m) (by omega)]
      omega
/-- The matrix of a row less than columns, without column k. -/
def cut (A : Mx) (k : Nat) : Mx := fun i j => A i (dl k j)
/-- The determinants without a column solve all rows for 0. -/
theorem cut_sol {m i : Nat} (hi : i < m) (A : Mx) : (sm (m + 1) fun k => A i k * (sg k * det m (cut A k))) = 0 := by
  let B : Mx := fun r k => if r = 0 then A i k else A (r - 1) k
  have h1 : det (m + 1) B = 0 := (alt_det _).eq (i := 0) (k := i + 1) (by omega) (by omega) (by omega) fun c _ => by simp [B]
  rw [← h1]
  simp only [det]
  refine sm_congr fun k hk => ?_
  rw [det_congr (A := mn B 0 k) (B := cut A k) fun r c _ _ => by simp [mn, B, dl, cut]]
  simp only [B, if_true]
  grind
theorem Bs.cross {A : Mx} {m : Nat} {gap : Nat} {p : Int} {g : Mx} (h : Bs A m (dl gap) p g) (hg : gap < m + 1) :
    det m (cut A gap) = p ∧ ∀ u, u < m → sg (dl gap u) * det m (cut A (dl gap u)) = -(sg gap * g u gap) := by
  have h1 : det m (cut A gap) = p := h.dt
  refine ⟨h1, fun u hu => ?_⟩
  have h2 : ∀ i, i < m → (sm m fun v => cut A gap i v * (sg (dl gap v) * det m (cut A (dl gap v)))) = -(sg gap * p) * A i gap := fun i hi => by
    have h3 := cut_sol hi A
    rw [sm_dl hg, h1] at h3
    simp only [cut] at h3 ⊢
    grind
  have h3 := cramer hu h2
  have h4 := cramer hu (K := cut A gap) (x := fun v => g v gap) (b := fun i => A i gap) (p := p) fun i hi => h.hi i gap hi
  rw [h1] at h3 h4
  have h5 := Int.eq_of_mul_eq_mul_left h.ne h4
  rw [← h5] at h3
  apply Int.eq_of_mul_eq_mul_left h.ne
  rw [h3]; grind
/-- Two ways to make nothing: then no determinant is left. -/
theorem cut_null {m j1 j2 : Nat} {A : Mx} {y z : Nat → Int} {p : Int} (hp : p ≠ 0) (h1 : j1 < m + 1) (h2 : j2 < m + 1) (y1 : y j1 = p) (y2 : y j2 = 0) (z1 : z j1 = 0) (z2 : z j2 = p)
    (hy : ∀ i, i < m → (sm (m + 1) fun k => A i k * y k) = 0) (hz : ∀ i, i < m → (sm (m + 1) fun k => A i k * z k) = 0) {k : Nat} (hk : k < m + 1) : det m (cut A k) = 0 := by
  have key : ∀ x : Nat → Int, (∀ i, i < m → (sm (m + 1) fun k => A i k * x k) = 0) → x k = 0 → ∀ q, q < m + 1 → x q ≠ 0 → det m (cut A k) = 0 := fun x hx hxk q hq hq2 => by
    obtain ⟨u, hu, rfl⟩ : ∃ u, u < m ∧ dl k u = q := by
      by_cases e : q < k
      · exact ⟨q, by omega, dl_lt e⟩
      · by_cases e2 : q = k
        · subst e2; exact absurd hxk hq2
        · exact ⟨q - 1, by omega, by rw [dl_ge (by omega)]; omega⟩
    refine det_null (q := u) (y := fun v => x (dl k v)) hu hq2 fun i hi => ?_
    have := hx i hi
    rw [sm_dl hk, hxk, Int.mul_zero, Int.zero_add] at this
    exact this
  by_cases e : z k = 0
  · exact key z hz e j2 h2 (by rw [z2]; exact hp)
  · refine key (fun i => z k * y i - y k * z i) (fun i hi => ?_) (by grind) j1 h1 (by rw [y1, z1]; simp; exact ⟨e, hp⟩)
    have e1 : (sm (m + 1) fun q => A i q * (z k * y q - y k * z q)) = z k * (sm (m + 1) fun q => A i q * y q) + -(y k) * sm (m + 1) fun q => A i q * z q := by
      rw [← sm_mul, ← sm_mul, ← sm_add]; exact sm_congr fun q _ => by grind
    rw [e1, hy i hi, hz i hi]; simp
/-- A column without a pivot is a sum of multiples of those with one. -/
theorem Bs.dep {A : Mx} {s r j : Nat} {c : Nat → Nat} {p : Int} {g : Mx} (h : Bs A s c p g) (hz : ∀ i, s ≤ i → i < r → g i j = 0) {i : Nat} (hi : i < r) : p * A i j = sm s fun u => A i (c u) * g u j := by
  by_cases e : i < s
  · exact (h.hi i j e).symm
  · rw [h.lo i j (by omega), hz i (by omega) hi]; omega
/-- Columns c of the pivots differ, and a vector that lies on them alone. -/
theorem sm_on {s n : Nat} {c : Nat → Nat} {f w : Nat → Int} (hc : ∀ u, u < s → c u < n) (hi : ∀ u v, u < s → v < s → c u = c v → u = v) (hw : ∀ k, k < n → (∀ u, u < s → c u ≠ k) → w k = 0) : (sm n fun k => f k * w k) = sm s fun u => f (c u) * w (c u) := by
  have h1 : (sm n fun k => f k * w k) = sm n fun k => sm s fun u => if c u = k then f k * w k else 0 := sm_congr fun k hk => by
    by_cases e : ∃ u, u < s ∧ c u = k
    · obtain ⟨u, hu, e⟩ := e
      rw [sm_one (j := u) hu fun v hv hvu => if_neg fun e2 => hvu (hi v u hv hu (e2.trans e.symm)), if_pos e]
    · rw [hw k hk fun u hu e2 => e ⟨u, hu, e2⟩, sm_nil fun u hu => by split <;> simp, Int.mul_zero]
  rw [h1, sm_comm]
  exact sm_congr fun u hu => by rw [sm_one (j := c u) (hc u hu) fun k hk hk2 => if_neg (Ne.symm hk2), if_pos rfl]
end Go.Proofs.Ytnidohbbimfpjaa.MD
