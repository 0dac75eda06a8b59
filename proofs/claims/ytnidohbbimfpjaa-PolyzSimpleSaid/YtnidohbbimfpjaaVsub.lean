/-
  subresultants: each rest of the subresultant method is divided exactly.
-/
import Derived.Test.YtnidohbbimfpjaaMdet
import Derived.Test.YtnidohbbimfpjaaVqr
namespace Go.Proofs.Ytnidohbbimfpjaa.MS
set_option linter.unusedVariables false
set_option linter.unusedSimpArgs false
open MD
open MP (Se)
/-- p times x to the power i. -/
def xp (i : Nat) (p : Se) : Se := fun k => if k < i then 0 else p (k - i)
theorem xp_at (i : Nat) (p : Se) (k : Nat) : xp i p k = if k < i then 0 else p (k - i) := rfl
theorem xp_0 (p : Se) (k : Nat) : xp 0 p k = p k := by simp [xp]
theorem xp_xp (i u : Nat) (p : Se) (k : Nat) : xp i (xp u p) k = xp (i + u) p k := by
  simp only [xp]
  by_cases h : k < i
  · rw [if_pos h, if_pos (by omega)]
  · rw [if_neg h]
    by_cases h2 : k - i < u
    · rw [if_pos h2, if_pos (by omega)]
    · rw [if_neg h2, if_neg (by omega)]; congr 1; omega
theorem mul_sum (G : Se) : ∀ (w : Nat) (Q : Se), MP.Se.Bd Q w → ∀ k, (Q * G) k = sm w fun u => Q u * xp u G k
  | 0, Q, h, k => by rw [h.zero, MP.Se.zero_mul]; cases k <;> rfl
  | w + 1, Q, h, k => by
    rw [MP.Se.mul_split, sm_first, MP.Se.add_at, MP.Se.sm_at, xp_0]
    congr 1
    cases k with
    | zero => rw [MP.Se.sh_0]; exact (sm_nil fun u _ => by simp [xp]).symm
    | succ k =>
      rw [MP.Se.sh_at, mul_sum G w _ h.tl k]
      refine sm_congr fun u _ => ?_
      simp only [xp, MP.Se.tl_at]
      by_cases h2 : k < u
      · rw [if_pos h2, if_pos (by omega)]
      · rw [if_neg h2, if_neg (by omega)]; congr 2; omega
section
variable {n : Nat} {F : Mx → Int}
/-- Multiples of the rows behind them added to the first a rows, and these multiplied. -/
theorem block (T : Alt n F) {A B : Mx} {a w : Nat} {e : Int} {cf : Nat → Nat → Int} {g : Nat → Nat → Nat} (ha : a ≤ n) (hg : ∀ i u, i < a → u < w → a ≤ g i u ∧ g i u < n)
    (h1 : ∀ i c, i < a → c < n → B i c = e * A i c + sm w fun u => cf i u * A (g i u) c) (h2 : ∀ i c, a ≤ i → i < n → c < n → B i c = A i c) : F B = e ^ a * F A := by
  let M : Nat → Mx := fun t i c => if i < t then B i c else A i c
  have hs : ∀ t, t ≤ a → F (M t) = e ^ t * F A := by
    intro t
    induction t with
    | zero => intro _; rw [Int.pow_zero, Int.one_mul]; exact T.congr _ _ fun i c _ _ => by simp [M]
    | succ t ih =>
      intro ht
      have e1 : F (M (t + 1)) = F (sr (M t) t fun c => e * M t t c + 1 * sm w fun u => cf t u * M t (g t u) c) := T.congr _ _ fun i c hi hc => by
        simp only [sr, M]
        by_cases h : i = t
        · subst h
          rw [if_pos (by omega), if_pos rfl, if_neg (by omega), h1 i c (by omega) hc, Int.one_mul]
          congr 1
          refine sm_congr fun u hu => ?_
          rw [if_neg (by have := (hg i u (by omega) hu).1; omega)]
        · rw [if_neg h]
          by_cases h3 : i < t
          · rw [if_pos (by omega), if_pos h3]
          · rw [if_neg (by omega), if_neg h3]
      have e2 := T.lin t (M t) (sr (M t) t fun c => sm w fun u => cf t u * M t (g t u) c) (sr (M t) t fun c => e * M t t c + 1 * sm w fun u => cf t u * M t (g t u) c) e 1 (by omega) (fun r k _ _ hr => by simp [sr, hr]) (fun c hc => by simp [sr])
      rw [e1, e2, ih (by omega), T.sum (by omega) (M t) w (cf t) fun u => M t (g t u), sm_nil fun u hu => ?_, Int.pow_succ]
      · grind
      · have h5 := hg t u (by omega) hu
        rw [T.eq (i := t) (k := g t u) (by omega) (by omega) h5.2 fun c _ => by
          simp only [sr, if_true]; rw [if_neg (show ¬ g t u = t by omega)], Int.mul_zero]
  rw [← hs a (Nat.le_refl _)]
  exact T.congr _ _ fun i c hi hc => by
    simp only [M]
    split
    · rfl
    · exact h2 i c (by omega) hi hc
/-- The rows turned about by t places. -/
def ro (n t : Nat) (A : Mx) : Mx := fun i => if i + t < n then A (i + t) else A (i + t - n)
theorem ro_one (T : Alt n F) : ∀ b, b < n → ∀ A : Mx, F (fun i => if i < b then A (i + 1) else if i = b then A 0 else A i) = sg b * F A
  | 0, h, A => by
    rw [sg_0, Int.one_mul]; exact T.congr _ _ fun i c _ _ => by
      rw [if_neg (by omega)]
      split
      · next e => rw [e]
      · rfl
  | b + 1, h, A => by
    have h1 := ro_one T b (by omega) A
    have h2 := T.swap (i := b) (k := b + 1) (by omega) (by omega) h fun i => if i < b then A (i + 1) else if i = b then A 0 else A i
    rw [sg_s, Int.neg_mul, ← h1, ← h2]
    refine T.congr _ _ fun i c _ _ => ?_
    simp only [sw]
    by_cases h3 : i = b
    · subst h3
      rw [if_pos (by omega), if_pos rfl, if_neg (show ¬ i + 1 < i by omega), if_neg (show ¬ i + 1 = i by omega)]
    · rw [if_neg h3]
      by_cases h4 : i = b + 1
      · subst h4
        rw [if_neg (show ¬ b + 1 < b + 1 by omega), if_pos rfl, if_pos rfl, if_neg (show ¬ b < b by omega), if_pos trivial]
      · rw [if_neg h4, if_neg h4]
        by_cases h5 : i < b
        · rw [if_pos (by omega), if_pos h5]
        · rw [if_neg (by omega), if_neg h5, if_neg h3]
theorem ro_is (T : Alt n F) (hn : 0 < n) (A : Mx) : ∀ t, t ≤ n → F (ro n t A) = sg (t * (n - 1)) * F A
  | 0, _ => by
    rw [Nat.zero_mul, sg_0, Int.one_mul]
    exact T.congr _ _ fun i c hi _ => by simp only [ro]; rw [Nat.add_zero, if_pos hi]
  | t + 1, ht => by
    have h1 := ro_is T hn A t (by omega)
    have h2 := ro_one T (n - 1) (by omega) (ro n t A)
    rw [Nat.add_mul, Nat.one_mul, sg_add, Int.mul_comm (sg _) (sg _), Int.mul_assoc, ← h1, ← h2]
    refine T.congr _ _ fun i c hi _ => ?_
    by_cases h3 : i < n - 1
    · rw [if_pos h3]
      simp only [ro]
      by_cases h4 : i + (t + 1) < n
      · rw [if_pos h4, if_pos (by omega)]; congr 1; omega
      · rw [if_neg h4, if_neg (by omega)]; congr 1; omega
    · obtain rfl : i = n - 1 := by omega
      rw [if_neg h3, if_pos rfl]
      simp only [ro]
      rw [if_neg (by omega), if_pos (by omega)]
      congr 1; omega
end
theorem sg_even (n : Nat) : sg (n * (n - 1)) = 1 := by
  unfold sg
  rw [if_pos]
  rcases Nat.mod_two_eq_zero_or_one n with h | h
  · rw [Nat.mul_mod, h, Nat.zero_mul]
  · rw [Nat.mul_mod, show (n - 1) % 2 = 0 by omega, Nat.mul_zero]
theorem sg_rot (a b : Nat) : sg (a * (a + b - 1)) = sg (a * b) := by
  rcases Nat.eq_zero_or_pos a with rfl | h
  · simp
  · rw [show a * (a + b - 1) = a * (a - 1) + a * b by rw [← Nat.mul_add]; congr 1; omega, sg_add, sg_even, Int.one_mul]
theorem det_col (n : Nat) (M : Mx) (h : ∀ i, 0 < i → i < n + 1 → M i 0 = 0) : det (n + 1) M = M 0 0 * det n fun i c => M (i + 1) (c + 1) := by
  rw [← det_tr]
  simp only [det]
  rw [sm_one (j := 0) (by omega) fun k hk hk2 => by simp only [tr]; rw [h k (by omega) hk]; simp, sg_0, Int.one_mul]
  simp only [tr]
  congr 1
  rw [← det_tr]
  exact det_congr fun i c _ _ => by simp only [tr, mn]; rw [dl_ge (by omega), dl_ge (by omega)]
/-- So many columns with the same number in the diagonal, and noughts below. -/
theorem det_tri (r : Nat) (L : Int) : ∀ (s : Nat) (M : Mx), (∀ i c, c < s → c < i → i < s + r → M i c = 0) → (∀ i, i < s → M i i = L) → det (s + r) M = L ^ s * det r fun i c => M (s + i) (s + c)
  | 0, M, _, _ => by rw [Nat.zero_add, Int.pow_zero, Int.one_mul]; exact det_congr fun i c _ _ => by simp
  | s + 1, M, h, h2 => by
    rw [show s + 1 + r = (s + r) + 1 by omega, det_col _ _ fun i h3 h4 => h i 0 (by omega) h3 (by omega), h2 0 (by omega),
      det_tri r L s (fun i c => M (i + 1) (c + 1)) (fun i c h3 h4 h5 => h _ _ (by omega) (by omega) (by omega)) (fun i hi => h2 _ (by omega)), Int.pow_succ]
    rw [det_congr (n := r) (B := fun i c => M (s + 1 + i) (s + 1 + c)) fun i c _ _ => by
      show M (s + i + 1) (s + c + 1) = M (s + 1 + i) (s + 1 + c)
      congr 1 <;> omega]
    grind
/-- The matrix of rows: its columns are the powers from t down, the last one the power k. -/
def dM (t N k : Nat) (r : Nat → Se) : Mx := fun i c => if c + 1 = N then r i k else r i (t - c)
def dm (t N k : Nat) (r : Nat → Se) : Int := det N (dM t N k r)
/-- F a times, and behind it G b times, each one power less. -/
def r2 (a b : Nat) (F G : Se) : Nat → Se := fun i => if i < a then xp (a - 1 - i) F else xp (a + b - 1 - i) G
/-- The coefficient k of the subresultant j of F and G, of degrees m and n. -/
def dd (m n j : Nat) (F G : Se) (k : Nat) : Int := dm (m + n - j - 1) (m + n - 2 * j) k (r2 (n - j) (m - j) F G)
theorem dd_rest {m n j k : Nat} {F G Q R : Se} {e : Int} (hnm : n ≤ m) (hj : j < n) (hQ : MP.Se.Bd Q (m - n + 1)) (h : MP.Se.sm e F = G * Q + R) :
    dm (m + n - j - 1) (m + n - 2 * j) k (r2 (n - j) (m - j) R G) = e ^ (n - j) * dd m n j F G k := by
  refine block (alt_det _) (A := dM _ _ k (r2 (n - j) (m - j) F G)) (w := m - n + 1) (cf := fun i u => -Q u) (g := fun i u => m + n - 2 * j - 1 - (n - j - 1 - i + u)) (by omega) (fun i u hi hu => by omega) (fun i c hi hc => ?_) (fun i c h1 h2 hc => ?_)
  · have key : ∀ p, xp (n - j - 1 - i) R p = e * xp (n - j - 1 - i) F p + sm (m - n + 1) fun u => -Q u * xp (n - j - 1 - i + u) G p := fun p => by
      have e1 : ∀ q, R q = e * F q - (Q * G) q := fun q => by
        have := congrArg (fun f => f q) h
        simp only [MP.Se.sm_at, MP.Se.add_at] at this
        rw [MP.Se.mul_comm] at this; omega
      have e2 : ∀ q, R q = e * F q + sm (m - n + 1) fun u => -Q u * xp u G q := fun q => by
        rw [e1, mul_sum G _ Q hQ, sm_congr (f := fun u => -Q u * xp u G q) (g := fun u => -1 * (Q u * xp u G q)) fun u _ => by grind, sm_mul]; grind
      rw [sm_congr (g := fun u => -Q u * xp (n - j - 1 - i) (xp u G) p) fun u _ => by rw [xp_xp]]
      simp only [xp_at (n - j - 1 - i)]
      by_cases h3 : p < n - j - 1 - i
      · simp only [if_pos h3]
        rw [sm_nil fun u _ => by simp]; simp
      · simp only [if_neg h3]
        exact e2 _
    have e3 : ∀ p, r2 (n - j) (m - j) R G i p = e * r2 (n - j) (m - j) F G i p + sm (m - n + 1) fun u => -Q u * r2 (n - j) (m - j) F G (m + n - 2 * j - 1 - (n - j - 1 - i + u)) p := fun p => by
      simp only [r2, if_pos hi]
      rw [key p]
      congr 1
      refine sm_congr fun u hu => ?_
      rw [if_neg (by omega), show n - j + (m - j) - 1 - (m + n - 2 * j - 1 - (n - j - 1 - i + u)) = n - j - 1 - i + u by omega]
    simp only [dM]
    split
    · exact e3 k
    · exact e3 _
  · simp only [dM, r2]
    rw [if_neg (show ¬ i < n - j by omega), if_neg (show ¬ i < n - j by omega)]
theorem dd_scale {m n j k : Nat} {H G : Se} {b : Int} (hnm : n ≤ m) (hj : j < n) : dm (m + n - j - 1) (m + n - 2 * j) k (r2 (n - j) (m - j) (MP.Se.sm b H) G) = b ^ (n - j) * dm (m + n - j - 1) (m + n - 2 * j) k (r2 (n - j) (m - j) H G) := by
  refine block (alt_det _) (A := dM _ _ k (r2 (n - j) (m - j) H G)) (w := 0) (cf := fun i u => 0) (g := fun i u => 0) (by omega) (fun i u hi hu => by omega) (fun i c hi hc => ?_) (fun i c h1 h2 hc => ?_)
  · have e3 : ∀ p, r2 (n - j) (m - j) (MP.Se.sm b H) G i p = b * r2 (n - j) (m - j) H G i p := fun p => by
      simp only [r2, if_pos hi, xp_at]
      split
      · simp
      · rfl
    simp only [dM, sm, Int.add_zero]
    split
    · exact e3 k
    · exact e3 _
  · simp only [dM, r2]
    rw [if_neg (show ¬ i < n - j by omega), if_neg (show ¬ i < n - j by omega)]
theorem dd_down {m n h j k : Nat} {G H : Se} (hnm : n ≤ m) (hh : h < n) (hj : j ≤ h) (hG : MP.Se.Bd G (n + 1)) (hH : MP.Se.Bd H (h + 1)) :
    dm (m + n - j - 1) (m + n - 2 * j) k (r2 (n - j) (m - j) H G) = sg ((n - j) * (m - j)) * ((G n) ^ (m - h) * dd n h j G H k) := by
  have hN : m + n - 2 * j = n - j + (m - j) := by omega
  have h1 := ro_is (alt_det (m + n - 2 * j)) (by omega) (dM (m + n - j - 1) (m + n - 2 * j) k (r2 (n - j) (m - j) H G)) (n - j) (by omega)
  have hs : sg ((n - j) * (m + n - 2 * j - 1)) = sg ((n - j) * (m - j)) := by rw [hN]; exact sg_rot _ _
  rw [hs] at h1
  have h2 : det (m + n - 2 * j) (ro (m + n - 2 * j) (n - j) (dM (m + n - j - 1) (m + n - 2 * j) k (r2 (n - j) (m - j) H G))) = (G n) ^ (m - h) * dd n h j G H k := by
    have hro : ∀ i c, i < m + n - 2 * j → ro (m + n - 2 * j) (n - j) (dM (m + n - j - 1) (m + n - 2 * j) k (r2 (n - j) (m - j) H G)) i c = dM (m + n - j - 1) (m + n - 2 * j) k (r2 (m - j) (n - j) G H) i c := fun i c hi => by
      have e : ∀ p, (if i + (n - j) < m + n - 2 * j then r2 (n - j) (m - j) H G (i + (n - j)) p else r2 (n - j) (m - j) H G (i + (n - j) - (m + n - 2 * j)) p) = r2 (m - j) (n - j) G H i p := fun p => by
        by_cases h3 : i < m - j
        · rw [if_pos (by omega)]
          simp only [r2]
          rw [if_neg (by omega), if_pos h3]; congr 1; omega
        · rw [if_neg (by omega)]
          simp only [r2]
          rw [if_pos (by omega), if_neg h3]; congr 1; omega
      have e' : ∀ p, (if i + (n - j) < m + n - 2 * j then dM (m + n - j - 1) (m + n - 2 * j) k (r2 (n - j) (m - j) H G) (i + (n - j)) else dM (m + n - j - 1) (m + n - 2 * j) k (r2 (n - j) (m - j) H G) (i + (n - j) - (m + n - 2 * j))) p = dM (m + n - j - 1) (m + n - 2 * j) k (r2 (m - j) (n - j) G H) i p := fun p => by
        split
        · next h5 =>
          simp only [dM]
          split
          · rw [← e k, if_pos h5]
          · rw [← e _, if_pos h5]
        · next h5 =>
          simp only [dM]
          split
          · rw [← e k, if_neg h5]
          · rw [← e _, if_neg h5]
      exact e' c
    rw [det_congr (fun i c hi _ => hro i c hi), show m + n - 2 * j = (m - h) + (n + h - 2 * j) by omega,
      det_tri (n + h - 2 * j) (G n) (m - h) _ (fun i c h3 h4 h5 => ?_) (fun i hi => ?_)]
    · congr 1
      refine det_congr fun i c hi hc => ?_
      have e : ∀ p, r2 (m - j) (n - j) G H (m - h + i) p = r2 (h - j) (n - j) G H i p := fun p => by
        simp only [r2]
        by_cases h3 : i < h - j
        · rw [if_pos (by omega), if_pos h3]; congr 1; omega
        · rw [if_neg (by omega), if_neg h3]; congr 1; omega
      simp only [dM]
      by_cases h3 : c + 1 = n + h - 2 * j
      · rw [if_pos (by omega), if_pos h3]; exact e k
      · rw [if_neg (by omega), if_neg h3, e]; congr 1; omega
    · simp only [dM]
      rw [if_neg (by omega)]
      simp only [r2]
      by_cases h6 : i < m - j
      · rw [if_pos h6, xp_at]
        split
        · rfl
        · exact hG _ (by omega)
      · rw [if_neg h6, xp_at]
        split
        · rfl
        · exact hH _ (by omega)
    · simp only [dM]
      rw [if_neg (by omega)]
      simp only [r2]
      rw [if_pos (by omega), xp_at, if_neg (by omega)]
      congr 1; omega
  rw [← h2, h1, ← Int.mul_assoc, sg_sq, Int.one_mul]; rfl
/-- One step: what a pseudo-rest makes of a subresultant. -/
theorem dd_step {m n h j k : Nat} {F G H Q : Se} {e b : Int} (hnm : n ≤ m) (hh : h < n) (hj : j ≤ h) (hG : MP.Se.Bd G (n + 1)) (hH : MP.Se.Bd H (h + 1)) (hQ : MP.Se.Bd Q (m - n + 1)) (hE : MP.Se.sm e F = G * Q + MP.Se.sm b H) :
    e ^ (n - j) * dd m n j F G k = sg ((n - j) * (m - j)) * (b ^ (n - j) * ((G n) ^ (m - h) * dd n h j G H k)) := by
  rw [← dd_rest hnm (by omega) hQ hE, dd_scale hnm (by omega), dd_down hnm hh hj hG hH]
  grind
/-- At the degree of the second one. -/
theorem dd_end {m n k : Nat} {F G : Se} (hm : n < m) (hG : MP.Se.Bd G (n + 1)) : dd m n n F G k = (G n) ^ (m - n - 1) * G k := by
  unfold dd dm
  rw [show m + n - 2 * n = (m - n - 1) + 1 by omega, det_tri 1 (G n) (m - n - 1) _ (fun i c h3 h4 h5 => ?_) (fun i hi => ?_)]
  · congr 1
    have e : dM (m + n - n - 1) (m - n - 1 + 1) k (r2 (n - n) (m - n) F G) (m - n - 1 + 0) (m - n - 1 + 0) = G k := by
      simp only [dM, r2]
      rw [if_pos trivial, if_neg (show ¬ m - n - 1 + 0 < n - n by omega), xp_at, if_neg (by omega)]
      congr 1; omega
    simp only [det, sm, sg_0]
    rw [e]; simp
  · simp only [dM, r2]
    rw [if_neg (by omega), if_neg (by omega), xp_at]
    split
    · rfl
    · exact hG _ (by omega)
  · simp only [dM, r2]
    rw [if_neg (by omega), if_neg (by omega), xp_at, if_neg (by omega)]
    congr 1; omega
/-- One below the degree of the second one. -/
theorem dd_one {n k : Nat} {G H : Se} : dd (n + 1) n n G H k = H k := by
  unfold dd dm
  rw [show n + 1 + n - 2 * n = 1 by omega]
  have e : dM (n + 1 + n - n - 1) 1 k (r2 (n - n) (n + 1 - n) G H) 0 0 = H k := by
    simp only [dM, r2]
    rw [if_pos trivial, if_neg (by omega), xp_at, if_neg (by omega)]
    congr 1; omega
  simp only [det, sm, sg_0]
  rw [e]; simp
end Go.Proofs.Ytnidohbbimfpjaa.MS
namespace Go.Proofs.Ytnidohbbimfpjaa.MS
set_option linter.unusedVariables false
set_option linter.unusedSimpArgs false
open MD
open MP (Se)
/-- Numbers of a matrix at most M: then its determinant. -/
theorem det_le {M : Nat} : ∀ (n : Nat) (A : Mx), (∀ i k, (A i k).natAbs ≤ M) → (det n A).natAbs ≤ (n * M) ^ n
  | 0, A, _ => by simp [det]
  | n + 1, A, h => by
    have h1 : ∀ k, (det n (mn A 0 k)).natAbs ≤ (n * M) ^ n := fun k => det_le n _ fun i c => h _ _
    have h2 : ∀ w, (sm w fun k => sg k * A 0 k * det n (mn A 0 k)).natAbs ≤ w * (M * (n * M) ^ n) := by
      intro w
      induction w with
      | zero => simp [sm]
      | succ w ih =>
        simp only [sm]
        refine Nat.le_trans (Int.natAbs_add_le _ _) ?_
        rw [Nat.add_mul, Nat.one_mul]
        refine Nat.add_le_add ih ?_
        rw [Int.natAbs_mul, Int.natAbs_mul]
        have : (sg w).natAbs = 1 := by unfold sg; split <;> rfl
        rw [this, Nat.one_mul]
        exact Nat.mul_le_mul (h _ _) (h1 _)
    refine Nat.le_trans (h2 (n + 1)) ?_
    rw [← Nat.mul_assoc, Nat.pow_succ, Nat.mul_comm]
    exact Nat.mul_le_mul_right _ (Nat.pow_le_pow_left (Nat.mul_le_mul_right _ (Nat.le_succ n)) n)
theorem dd_le {M m n j : Nat} {F G : Se} (hF : ∀ i, (F i).natAbs ≤ M) (hG : ∀ i, (G i).natAbs ≤ M) (k : Nat) : (dd m n j F G k).natAbs ≤ ((m + n - 2 * j) * M) ^ (m + n - 2 * j) := by
  refine det_le _ _ fun i c => ?_
  have e : ∀ p, (r2 (n - j) (m - j) F G i p).natAbs ≤ M := fun p => by
    simp only [r2]
    split <;> rw [xp_at] <;> split
    · exact Nat.zero_le _
    · exact hF _
    · exact Nat.zero_le _
    · exact hG _
  simp only [dM]
  split <;> exact e _
theorem dd_le2 {M m n j : Nat} {F G : Se} (hF : ∀ i, (F i).natAbs ≤ M) (hG : ∀ i, (G i).natAbs ≤ M) (hM : 1 ≤ M) (k : Nat) : (dd m n j F G k).natAbs ≤ ((m + n) * M) ^ (m + n) := by
  rcases Nat.eq_zero_or_pos (m + n) with h | h
  · have := dd_le hF hG (m := m) (n := n) (j := j) k
    rw [h] at this ⊢; simpa using this
  · refine Nat.le_trans (dd_le hF hG k) (Nat.le_trans (Nat.pow_le_pow_left (Nat.mul_le_mul_right _ (Nat.sub_le _ _)) _) ?_)
    exact Nat.pow_le_pow_right (Nat.mul_pos h hM) (Nat.sub_le _ _)
theorem sg_abs (s : Nat) (x : Int) : (sg s * x).natAbs = x.natAbs := by
  rw [Int.natAbs_mul]
  have : (sg s).natAbs = 1 := by unfold sg; split <;> rfl
  rw [this, Nat.one_mul]
/-- What the numbers of a pseudo-remainder sequence have to do with those that it begins with. -/
structure In (m0 n0 : Nat) (p q : Se) (ε m n : Nat) (P Q : Se) (f s : Int) : Prop where
  fne : f ≠ 0
  sne : s ≠ 0
  dP : MP.Se.Dg P m
  dQ : MP.Se.Dg Q n
  le : n ≤ m
  eq : ∀ j, j ≤ n → j < m → ∃ σ, ∀ k, dd m n j P Q k = sg σ * (f ^ (n - j) * s ^ (m - j - 1) * dd m0 n0 j p q k)
  z : 0 < m → ∀ k, dd m n 0 P Q k = sg ε * (f ^ n * s ^ (m - 1) * dd m0 n0 0 p q k)
theorem In.init {p q : Se} {m n : Nat} (hp : MP.Se.Dg p m) (hq : MP.Se.Dg q n) (h : n ≤ m) : In m n p q 0 m n p q 1 1 := by
  refine ⟨by decide, by decide, hp, hq, h, fun j h1 h2 => ⟨0, fun k => ?_⟩, fun h1 k => ?_⟩
  · rw [sg_0, Int.one_pow, Int.one_pow, Int.one_mul, Int.one_mul, Int.one_mul]
  · rw [sg_0, Int.one_pow, Int.one_pow, Int.one_mul, Int.one_mul, Int.one_mul]
theorem alg {L f s s2 D X τ τ2 : Int} {δ N w : Nat} (hL : L ≠ 0) (hf : f ≠ 0) (hs : s ≠ 0) (hw : w ≤ N) (h2 : τ2 * τ2 = 1) (hs2 : L ^ δ * s = s ^ δ * s2)
    (h : (L ^ (δ + 1)) ^ (N + 1) * (τ * (f ^ (N + 1) * s ^ (δ + N) * D)) = τ2 * ((f * s ^ δ) ^ (N + 1) * (L ^ (δ + N + 1 - w) * X))) : X = τ * τ2 * (L ^ w * s2 ^ N * D) := by
  have hc : (f * s ^ δ) ^ (N + 1) * L ^ (δ + N + 1 - w) ≠ 0 := Int.mul_ne_zero (Int.pow_ne_zero (Int.mul_ne_zero hf (Int.pow_ne_zero hs))) (Int.pow_ne_zero hL)
  apply Int.eq_of_mul_eq_mul_left hc
  have e1 : (f * s ^ δ) ^ (N + 1) * L ^ (δ + N + 1 - w) * X = τ2 * ((L ^ (δ + 1)) ^ (N + 1) * (τ * (f ^ (N + 1) * s ^ (δ + N) * D))) := by
    rw [h, ← Int.mul_assoc τ2, h2, Int.one_mul, Int.mul_assoc]
  rw [e1]
  have e2 : L ^ (δ + N + 1 - w) * L ^ w = L ^ (δ + N + 1) := by rw [← Int.pow_add]; congr 1; omega
  have e3 : (L ^ (δ + 1)) ^ (N + 1) = L ^ (δ + N + 1) * (L ^ δ) ^ N := by
    rw [← Int.pow_mul, ← Int.pow_mul, ← Int.pow_add]; congr 1; rw [Nat.add_mul, Nat.mul_add]; omega
  have e4 : (f * s ^ δ) ^ (N + 1) = f ^ (N + 1) * ((s ^ δ) ^ N * s ^ δ) := by rw [Int.mul_pow, Int.pow_succ (s ^ δ)]
  have e5 : s ^ (δ + N) = s ^ δ * s ^ N := Int.pow_add _ _ _
  have e6 : (L ^ δ) ^ N * s ^ N = (s ^ δ) ^ N * s2 ^ N := by rw [← Int.mul_pow, hs2, Int.mul_pow]
  rw [e3, e4, e5]
  calc τ2 * (L ^ (δ + N + 1) * (L ^ δ) ^ N * (τ * (f ^ (N + 1) * (s ^ δ * s ^ N) * D))) = τ * τ2 * (L ^ (δ + N + 1) * f ^ (N + 1) * s ^ δ * D) * ((L ^ δ) ^ N * s ^ N) := by grind
    _ = τ * τ2 * (L ^ (δ + N + 1) * f ^ (N + 1) * s ^ δ * D) * ((s ^ δ) ^ N * s2 ^ N) := by rw [e6]
    _ = _ := by rw [← e2]; grind
section
variable {m0 n0 ε m n : Nat} {p q P Q u r : Se} {f s s2 : Int}
/-- The pseudo-rest is divided exactly. -/
theorem In.exact (I : In m0 n0 p q ε m n P Q f s) (hn : 0 < n) (hu : MP.Se.Bd u (m - n + 1)) (hr : MP.Se.Bd r n) (hE : MP.Se.sm ((Q n) ^ (m - n + 1)) P = Q * u + r) :
    ∃ σ, ∀ k, r k = f * s ^ (m - n) * (sg σ * dd m0 n0 (n - 1) p q k) := by
  obtain ⟨σ, hσ⟩ := I.eq (n - 1) (by omega) (by have := I.le; omega)
  refine ⟨σ + (m - n + 1), fun k => ?_⟩
  have h1 := dd_step (m := m) (n := n) (h := n - 1) (j := n - 1) (k := k) (F := P) (e := (Q n) ^ (m - n + 1)) (b := 1) (H := r) I.le (by omega) (Nat.le_refl _) I.dQ.2 (hr.le (by omega)) hu (by rw [MP.Se.sm_one]; exact hE)
  have hle := I.le
  have h2 : dd n (n - 1) (n - 1) Q r k = r k := by
    obtain ⟨n, rfl⟩ : ∃ a, n = a + 1 := ⟨n - 1, by omega⟩
    exact dd_one
  rw [h2, show n - (n - 1) = 1 by omega, show m - (n - 1) = m - n + 1 by omega, Int.one_pow, Int.one_mul, Int.pow_succ ((Q n) ^ (m - n + 1)) 0, Int.pow_zero, Int.one_mul, Nat.one_mul] at h1
  have h3 : dd m n (n - 1) P Q k = sg (m - n + 1) * r k := by
    apply Int.eq_of_mul_eq_mul_left (show (Q n) ^ (m - n + 1) ≠ 0 from Int.pow_ne_zero I.dQ.1)
    rw [h1]; grind
  have h4 := hσ k
  rw [h3, show n - (n - 1) = 1 by omega, show m - (n - 1) - 1 = m - n by omega, Int.pow_one] at h4
  have h5 := sg_sq (m - n + 1)
  rw [sg_add]
  calc r k = sg (m - n + 1) * (sg (m - n + 1) * r k) := by rw [← Int.mul_assoc, h5, Int.one_mul]
    _ = _ := by rw [h4]; grind
/-- The scale is divided exactly. -/
theorem In.scale (I : In m0 n0 p q ε m n P Q f s) (h : n < m) : ∃ s2 σ, (Q n) ^ (m - n) = s ^ (m - n - 1) * s2 ∧ s2 ≠ 0 ∧ s2 = sg σ * dd m0 n0 n p q n := by
  obtain ⟨σ, hσ⟩ := I.eq n (Nat.le_refl _) h
  have h1 := hσ n
  rw [dd_end h I.dQ.2, Nat.sub_self, Int.pow_zero, Int.one_mul, ← Int.pow_succ, show (m - n - 1).succ = m - n by omega] at h1
  refine ⟨sg σ * dd m0 n0 n p q n, σ, by rw [h1]; grind, fun e => ?_, rfl⟩
  rcases Int.mul_eq_zero.1 e with e | e
  · exact sg_ne _ e
  · rw [e] at h1; exact Int.pow_ne_zero I.dQ.1 (h1.trans (by simp))
/-- The next ones. -/
theorem In.next (I : In m0 n0 p q ε m n P Q f s) {R : Se} {h : Nat} (hR : MP.Se.Dg R h) (hh : h < n) (hu : MP.Se.Bd u (m - n + 1)) (hE : MP.Se.sm ((Q n) ^ (m - n + 1)) P = Q * u + MP.Se.sm (f * s ^ (m - n)) R)
    (h0 : s2 ≠ 0) (hs : m = n ∧ s2 = s ∨ n < m ∧ (Q n) ^ (m - n) = s ^ (m - n - 1) * s2) : In m0 n0 p q (ε + n * m) n h Q R (Q n) s2 := by
  have hle := I.le
  have hs2 : (Q n) ^ (m - n) * s = s ^ (m - n) * s2 := by
    rcases hs with ⟨h1, h2⟩ | ⟨h1, h2⟩
    · rw [h1, Nat.sub_self, h2, Int.pow_zero, Int.pow_zero]
    · rw [h2, show s ^ (m - n) = s ^ (m - n - 1) * s by rw [← Int.pow_succ]; congr 1; omega]; grind
  have key : ∀ j k σ, j ≤ h → dd m n j P Q k = sg σ * (f ^ (n - j) * s ^ (m - j - 1) * dd m0 n0 j p q k) → dd n h j Q R k = sg (σ + (n - j) * (m - j)) * ((Q n) ^ (h - j) * s2 ^ (n - j - 1) * dd m0 n0 j p q k) := fun j k σ hj hσ => by
    have h1 := dd_step (m := m) (n := n) (h := h) (j := j) (k := k) hle hh hj I.dQ.2 hR.2 hu hE
    rw [hσ] at h1
    rw [sg_add]
    refine alg (δ := m - n) (N := n - j - 1) (w := h - j) I.dQ.1 I.fne I.sne (by omega) (sg_sq _) hs2 ?_
    rw [show n - j - 1 + 1 = n - j by omega, show m - n + (n - j - 1) = m - j - 1 by omega, show m - j - 1 + 1 - (h - j) = m - h by omega]
    exact h1
  refine ⟨I.dQ.1, h0, I.dQ, hR, Nat.le_of_lt hh, fun j h1 h2 => ?_, fun h1 k => ?_⟩
  · obtain ⟨σ, hσ⟩ := I.eq j (by omega) (by omega)
    exact ⟨_, fun k => key j k σ h1 (hσ k)⟩
  · have := key 0 k ε (Nat.zero_le _) (I.z (by omega) k)
    simpa using this
/-- At the end: a constant is left. -/
theorem In.last (I : In m0 n0 p q ε m 0 P Q f s) (hm : 0 < m) : (Q 0) ^ m = s ^ (m - 1) * (sg ε * dd m0 n0 0 p q 0) := by
  have h1 := I.z hm 0
  rw [dd_end hm I.dQ.2, Int.pow_zero, Int.one_mul, ← Int.pow_succ, show (m - 0 - 1).succ = m by omega] at h1
  rw [h1]; grind
end
/-- The pseudo-rest, with as many powers as there are steps. -/
theorem pseudoT {p q : Se} {n : Nat} (hq : MP.Se.Dg q n) : ∀ (T : Nat) {p : Se}, MP.Se.Bd p (n + T) → ∃ u r, MP.Se.Bd u T ∧ MP.Se.Bd r n ∧ MP.Se.sm ((q n) ^ T) p = q * u + r
  | 0, p, h => ⟨MP.Se.c 0, p, MP.Se.Bd.c0 0, h, by rw [Int.pow_zero, MP.Se.sm_one, MP.Se.mul_zero, MP.Se.zero_add]⟩
  | T + 1, p, h => by
    let x : Se := MP.Se.mo T (p (n + T))
    have hx : MP.Se.Bd x (T + 1) := MP.Se.mo_bd _ _
    have hb2 : MP.Se.Bd (MP.Se.sm (q n) p - q * x) (n + T) := fun i hi => by
      rw [MP.Se.sub_at, MP.Se.sm_at, MP.Se.mul_comm, MP.Se.mo_mul_at, if_neg (by omega)]
      rcases Nat.eq_or_lt_of_le hi with e | e
      · rw [← e, Nat.add_sub_cancel]; exact (by grind : q n * p (n + T) - p (n + T) * q n = 0)
      · rw [h i (by omega), hq.2 (i - T) (by omega)]; simp
    obtain ⟨u, r, h4, h5, h6⟩ := pseudoT (p := p) hq T hb2
    refine ⟨u + MP.Se.sm ((q n) ^ T) x, r, (h4.le (by omega)).add hx.sm, h5, ?_⟩
    rw [Int.pow_succ, ← MP.Se.sm_sm, MP.Se.mul_add, MP.Se.mul_sm]
    refine MP.Se.ext fun i => ?_
    have := congrArg (fun f => f i) h6
    simp only [MP.Se.sm_at, MP.Se.add_at, MP.Se.sub_at] at this ⊢
    grind
end Go.Proofs.Ytnidohbbimfpjaa.MS
