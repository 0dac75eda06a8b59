/-
  matrix: what Resultant hands back.
-/
import Derived.Test.YtbpamkpclofnbaaGreatMbuild
import Derived.Test.YtbpamkpclofnbaaGreatVqr
import Derived.Test.YtbpamkpclofnbaaGreatVpush
import Derived.Test.YtbpamkpclofnbaaGreatVpg
import Derived.Test.YtbpamkpclofnbaaGreatMres
namespace Go.Proofs.YtbpamkpclofnbaaGreat.MS
set_option linter.unusedVariables false
set_option linter.unusedSimpArgs false
open MD
open MP (Se)
/-- p times x to the power i. -/
def xp (i : Nat) (p : Se) : Se := fun k => if k < i then 0 else p (k - i)
theorem xp_at (i : Nat) (p : Se) (k : Nat) : xp i p k = if k < i then 0 else p (k - i) := rfl
theorem xp_0 (p : Se) (k : Nat) : xp 0 p k = p k := by simp [xp]
theorem xp_xp (i u : Nat) (p : Se) (k : Nat) : xp i (xp u p) k = xp (i + u) p k := by
  simp only [xp]
  by_cases h : k < i
  · rw [if_pos h, if_pos (by omega)]
  · rw [if_neg h]
    by_cases h2 : k - i < u
    · rw [if_pos h2, if_pos (by omega)]
    · rw [if_neg h2, if_neg (by omega)]; congr 1; omega
theorem mul_sum (G : Se) : ∀ (w : Nat) (Q : Se), MP.Se.Bd Q w → ∀ k, (Q * G) k = sm w fun u => Q u * xp u G k
  | 0, Q, h, k => by rw [h.zero, MP.Se.zero_mul]; cases k <;> rfl
  | w + 1, Q, h, k => by
    rw [MP.Se.mul_split, sm_first, MP.Se.add_at, MP.Se.sm_at, xp_0]
    congr 1
    cases k with
    | zero => rw [MP.Se.sh_0]; exact (sm_nil fun u _ => by simp [xp]).symm
    | succ k =>
      rw [MP.Se.sh_at, mul_sum G w _ h.tl k]
      refine sm_congr fun u _ => ?_
      simp only [xp, MP.Se.tl_at]
      by_cases h2 : k < u
      · rw [if_pos h2, if_pos (by omega)]
      · rw [if_neg h2, if_neg (by omega)]; congr 2; omega
section
variable {n : Nat} {F : Mx → Int}
/-- Multiples of the rows behind them added to the first a rows, and these multiplied. -/
theorem block (T : Alt n F) {A B : Mx} {a w : Nat} {e : Int} {cf : Nat → Nat → Int} {g : Nat → Nat → Nat} (ha : a ≤ n) (hg : ∀ i u, i < a → u < w → a ≤ g i u ∧ g i u < n)
    (h1 : ∀ i c, i < a → c < n → B i c = e * A i c + sm w fun u => cf i u * A (g i u) c) (h2 : ∀ i c, a ≤ i → i < n → c < n → B i c = A i c) : F B = e ^ a * F A := by
  let M : Nat → Mx := fun t i c => if i < t then B i c else A i c
  have hs : ∀ t, t ≤ a → F (M t) = e ^ t * F A := by
    intro t
    induction t with
    | zero => intro _; rw [Int.pow_zero, Int.one_mul]; exact T.congr _ _ fun i c _ _ => by simp [M]
    | succ t ih =>
      intro ht
      have e1 : F (M (t + 1)) = F (sr (M t) t fun c => e * M t t c + 1 * sm w fun u => cf t u * M t (g t u) c) := T.congr _ _ fun i c hi hc => by
        simp only [sr, M]
        by_cases h : i = t
        · subst h
          rw [if_pos (by omega), if_pos rfl, if_neg (by omega), h1 i c (by omega) hc, Int.one_mul]
          congr 1
          refine sm_congr fun u hu => ?_
          rw [if_neg (by have := (hg i u (by omega) hu).1; omega)]
        · rw [if_neg h]
          by_cases h3 : i < t
          · rw [if_pos (by omega), if_pos h3]
          · rw [if_neg (by omega), if_neg h3]
      have e2 := T.lin t (M t) (sr (M t) t fun c => sm w fun u => cf t u * M t (g t u) c) (sr (M t) t fun c => e * M t t c + 1 * sm w fun u => cf t u * M t (g t u) c) e 1 (by omega) (fun r k _ _ hr => by simp [sr, hr]) (fun c hc => by simp [sr])
      rw [e1, e2, ih (by omega), T.sum (by omega) (M t) w (cf t) fun u => M t (g t u), sm_nil fun u hu => ?_, Int.pow_succ]
      · grind
      · have h5 := hg t u (by omega) hu
        rw [T.eq (i := t) (k := g t u) (by omega) (by omega) h5.2 fun c _ => by
          simp only [sr, if_true]; rw [if_neg (show ¬ g t u = t by omega)], Int.mul_zero]
  rw [← hs a (Nat.le_refl _)]
  exact T.congr _ _ fun i c hi hc => by
    simp only [M]
    split
    · rfl
    · exact h2 i c (by omega) hi hc
/-- The rows turned about by t places. -/
def ro (n t : Nat) (A : Mx) : Mx := fun i => if i + t < n then A (i + t) else A (i + t - n)
theorem ro_one (T : Alt n F) : ∀ b, b < n → ∀ A : Mx, F (fun i => if i < b then A (i + 1) else if i = b then A 0 else A i) = sg b * F A
  | 0, h, A => by
    rw [sg_0, Int.one_mul]; exact T.congr _ _ fun i c _ _ => by
      rw [if_neg (by omega)]
      split
      · next e => rw [e]
      · rfl
  | b + 1, h, A => by
    have h1 := ro_one T b (by omega) A
    have h2 := T.swap (i := b) (k := b + 1) (by omega) (by omega) h fun i => if i < b then A (i + 1) else if i = b then A 0 else A i
    rw [sg_s, Int.neg_mul, ← h1, ← h2]
    refine T.congr _ _ fun i c _ _ => ?_
    simp only [sw]
    by_cases h3 : i = b
    · subst h3
      rw [if_pos (by omega), if_pos rfl, if_neg (show ¬ i + 1 < i by omega), if_neg (show ¬ i + 1 = i by omega)]
    · rw [if_neg h3]
      by_cases h4 : i = b + 1
      · subst h4
        rw [if_neg (show ¬ b + 1 < b + 1 by omega), if_pos rfl, if_pos rfl, if_neg (show ¬ b < b by omega), if_pos trivial]
      · rw [if_neg h4, if_neg h4]
        by_cases h5 : i < b
        · rw [if_pos (by omega), if_pos h5]
        · rw [if_neg (by omega), if_neg h5, if_neg h3]
theorem ro_is (T : Alt n F) (hn : 0 < n) (A : Mx) : ∀ t, t ≤ n → F (ro n t A) = sg (t * (n - 1)) * F A
  | 0, _ => by
    rw [Nat.zero_mul, sg_0, Int.one_mul]
    exact T.congr _ _ fun i c hi _ => by simp only [ro]; rw [Nat.add_zero, if_pos hi]
  | t + 1, ht => by
    have h1 := ro_is T hn A t (by omega)
    have h2 := ro_one T (n - 1) (by omega) (ro n t A)
    rw [Nat.add_mul, Nat.one_mul, sg_add, Int.mul_comm (sg _) (sg _), Int.mul_assoc, ← h1, ← h2]
    refine T.congr _ _ fun i c hi _ => ?_
    by_cases h3 : i < n - 1
    · rw [if_pos h3]
      simp only [ro]
      by_cases h4 : i + (t + 1) < n
      · rw [if_pos h4, if_pos (by omega)]; congr 1; omega
      · rw [if_neg h4, if_neg (by omega)]; congr 1; omega
    · obtain rfl : i = n - 1 := by omega
      rw [if_neg h3, if_pos rfl]
      simp only [ro]
      rw [if_neg (by omega), if_pos (by omega)]
      congr 1; omega
end
theorem sg_even (n : Nat) : sg (n * (n - 1)) = 1 := by
  unfold sg
  rw [if_pos]
  rcases Nat.mod_two_eq_zero_or_one n with h | h
  · rw [Nat.mul_mod, h, Nat.zero_mul]
  · rw [Nat.mul_mod, show (n - 1) % 2 = 0 by omega, Nat.mul_zero]
theorem sg_rot (a b : Nat) : sg (a * (a + b - 1)) = sg (a * b) := by
  rcases Nat.eq_zero_or_pos a with rfl | h
  · simp
  · rw [show a * (a + b - 1) = a * (a - 1) + a * b by rw [← Nat.mul_add]; congr 1; omega, sg_add, sg_even, Int.one_mul]
theorem det_col (n : Nat) (M : Mx) (h : ∀ i, 0 < i → i < n + 1 → M i 0 = 0) : det (n + 1) M = M 0 0 * det n fun i c => M (i + 1) (c + 1) := by
  rw [← det_tr]
  simp only [det]
  rw [sm_one (j := 0) (by omega) fun k hk hk2 => by simp only [tr]; rw [h k (by omega) hk]; simp, sg_0, Int.one_mul]
  simp only [tr]
  congr 1
  rw [← det_tr]
  exact det_congr fun i c _ _ => by simp only [tr, mn]; rw [dl_ge (by omega), dl_ge (by omega)]
/-- So many columns with the same number in the diagonal, and noughts below. -/
theorem det_tri (r : Nat) (L : Int) : ∀ (s : Nat) (M : Mx), (∀ i c, c < s → c < i → i < s + r → M i c = 0) → (∀ i, i < s → M i i = L) → det (s + r) M = L ^ s * det r fun i c => M (s + i) (s + c)
  | 0, M, _, _ => by rw [Nat.zero_add, Int.pow_zero, Int.one_mul]; exact det_congr fun i c _ _ => by simp
  | s + 1, M, h, h2 => by
    rw [show s + 1 + r = (s + r) + 1 by omega, det_col _ _ fun i h3 h4 => h i 0 (by omega) h3 (by omega), h2 0 (by omega),
      det_tri r L s (fun i c => M (i + 1) (c + 1)) (fun i c h3 h4 h5 => h _ _ (by omega) (by omega) (by omega)) (fun i hi => h2 _ (by omega)), Int.pow_succ]
    rw [det_congr (n := r) (B := fun i c => M (s + 1 + i) (s + 1 + c)) fun i c _ _ => by
      show M (s + i + 1) (s + c + 1) = M (s + 1 + i) (s + 1 + c)
      congr 1 <;> omega]
    grind
/-- The matrix of rows: its columns are the powers from t down, the last one the power k. -/
def dM (t N k : Nat) (r : Nat → Se) : Mx := fun i c => if c + 1 = N then r i k else r i (t - c)
def dm (t N k : Nat) (r : Nat → Se) : Int := det N (dM t N k r)
/-- F a times, and behind it G b times, each one power less. -/
def r2 (a b : Nat) (F G : Se) : Nat → Se := fun i => if i < a then xp (a - 1 - i) F else xp (a + b - 1 - i) G
/-- The coefficient k of the subresultant j of F and G, of degrees m and n. -/
def dd (m n j : Nat) (F G : Se) (k : Nat) : Int := dm (m + n - j - 1) (m + n - 2 * j) k (r2 (n - j) (m - j) F G)
theorem dd_rest {m n j k : Nat} {F G Q R : Se} {e : Int} (hnm : n ≤ m) (hj : j < n) (hQ : MP.Se.Bd Q (m - n + 1)) (h : MP.Se.sm e F = G * Q + R) :
    dm (m + n - j - 1) (m + n - 2 * j) k (r2 (n - j) (m - j) R G) = e ^ (n - j) * dd m n j F G k := by
  refine block (alt_det _) (A := dM _ _ k (r2 (n - j) (m - j) F G)) (w := m - n + 1) (cf := fun i u => -Q u) (g := fun i u => m + n - 2 * j - 1 - (n - j - 1 - i + u)) (by omega) (fun i u hi hu => by omega) (fun i c hi hc => ?_) (fun i c h1 h2 hc => ?_)
  · have key : ∀ p, xp (n - j - 1 - i) R p = e * xp (n - j - 1 - i) F p + sm (m - n + 1) fun u => -Q u * xp (n - j - 1 - i + u) G p := fun p => by
      have e1 : ∀ q, R q = e * F q - (Q * G) q := fun q => by
        have := congrArg (fun f => f q) h
        simp only [MP.Se.sm_at, MP.Se.add_at] at this
        rw [MP.Se.mul_comm] at this; omega
      have e2 : ∀ q, R q = e * F q + sm (m - n + 1) fun u => -Q u * xp u G q := fun q => by
        rw [e1, mul_sum G _ Q hQ, sm_congr (f := fun u => -Q u * xp u G q) (g := fun u => -1 * (Q u * xp u G q)) fun u _ => by grind, sm_mul]; grind
      rw [sm_congr (g := fun u => -Q u * xp (n - j - 1 - i) (xp u G) p) fun u _ => by rw [xp_xp]]
      simp only [xp_at (n - j - 1 - i)]
      by_cases h3 : p < n - j - 1 - i
      · simp only [if_pos h3]
        rw [sm_nil fun u _ => by simp]; simp
      · simp only [if_neg h3]
        exact e2 _
    have e3 : ∀ p, r2 (n - j) (m - j) R G i p = e * r2 (n - j) (m - j) F G i p + sm (m - n + 1) fun u => -Q u * r2 (n - j) (m - j) F G (m + n - 2 * j - 1 - (n - j - 1 - i + u)) p := fun p => by
      simp only [r2, if_pos hi]
      rw [key p]
      congr 1
      refine sm_congr fun u hu => ?_
      rw [if_neg (by omega), show n - j + (m - j) - 1 - (m + n - 2 * j - 1 - (n - j - 1 - i + u)) = n - j - 1 - i + u by omega]
    simp only [dM]
    split
    · exact e3 k
    · exact e3 _
  · simp only [dM, r2]
    rw [if_neg (show ¬ i < n - j by omega), if_neg (show ¬ i < n - j by omega)]
theorem dd_scale {m n j k : Nat} {H G : Se} {b : Int} (hnm : n ≤ m) (hj : j < n) : dm (m + n - j - 1) (m + n - 2 * j) k (r2 (n - j) (m - j) (MP.Se.sm b H) G) = b ^ (n - j) * dm (m + n - j - 1) (m + n - 2 * j) k (r2 (n - j) (m - j) H G) := by
  refine block (alt_det _) (A := dM _ _ k (r2 (n - j) (m - j) H G)) (w := 0) (cf := fun i u => 0) (g := fun i u => 0) (by omega) (fun i u hi hu => by omega) (fun i c hi hc => ?_) (fun i c h1 h2 hc => ?_)
  · have e3 : ∀ p, r2 (n - j) (m - j) (MP.Se.sm b H) G i p = b * r2 (n - j) (m - j) H G i p := fun p => by
      simp only [r2, if_pos hi, xp_at]
      split
      · simp
      · rfl
    simp only [dM, sm, Int.add_zero]
    split
    · exact e3 k
    · exact e3 _
  · simp only [dM, r2]
    rw [if_neg (show ¬ i < n - j by omega), if_neg (show ¬ i < n - j by omega)]
theorem dd_down {m n h j k : Nat} {G H : Se} (hnm : n ≤ m) (hh : h < n) (hj : j ≤ h) (hG : MP.Se.Bd G (n + 1)) (hH : MP.Se.Bd H (h + 1)) :
    dm (m + n - j - 1) (m + n - 2 * j) k (r2 (n - j) (m - j) H G) = sg ((n - j) * (m - j)) * ((G n) ^ (m - h) * dd n h j G H k) := by
  have hN : m + n - 2 * j = n - j + (m - j) := by omega
  have h1 := ro_is (alt_det (m + n - 2 * j)) (by omega) (dM (m + n - j - 1) (m + n - 2 * j) k (r2 (n - j) (m - j) H G)) (n - j) (by omega)
  have hs : sg ((n - j) * (m + n - 2 * j - 1)) = sg ((n - j) * (m - j)) := by rw [hN]; exact sg_rot _ _
  rw [hs] at h1
  have h2 : det (m + n - 2 * j) (ro (m + n - 2 * j) (n - j) (dM (m + n - j - 1) (m + n - 2 * j) k (r2 (n - j) (m - j) H G))) = (G n) ^ (m - h) * dd n h j G H k := by
    have hro : ∀ i c, i < m + n - 2 * j → ro (m + n - 2 * j) (n - j) (dM (m + n - j - 1) (m + n - 2 * j) k (r2 (n - j) (m - j) H G)) i c = dM (m + n - j - 1) (m + n - 2 * j) k (r2 (m - j) (n - j) G H) i c := fun i c hi => by
      have e : ∀ p, (if i + (n - j) < m + n - 2 * j then r2 (n - j) (m - j) H G (i + (n - j)) p else r2 (n - j) (m - j) H G (i + (n - j) - (m + n - 2 * j)) p) = r2 (m - j) (n - j) G H i p := fun p => by
        by_cases h3 : i < m - j
        · rw [if_pos (by omega)]
          simp only [r2]
          rw [if_neg (by omega), if_pos h3]; congr 1; omega
        · rw [if_neg (by omega)]
          simp only [r2]
          rw [if_pos (by omega), if_neg h3]; congr 1; omega
      have e' : ∀ p, (if i + (n - j) < m + n - 2 * j then dM (m + n - j - 1) (m + n - 2 * j) k (r2 (n - j) (m - j) H G) (i + (n - j)) else dM (m + n - j - 1) (m + n - 2 * j) k (r2 (n - j) (m - j) H G) (i + (n - j) - (m + n - 2 * j))) p = dM (m + n - j - 1) (m + n - 2 * j) k (r2 (m - j) (n - j) G H) i p := fun p => by
        split
        · next h5 =>
          simp only [dM]
          split
          · rw [← e k, if_pos h5]
          · rw [← e _, if_pos h5]
        · next h5 =>
          simp only [dM]
          split
          · rw [← e k, if_neg h5]
          · rw [← e _, if_neg h5]
      exact e' c
    rw [det_congr (fun i c hi _ => hro i c hi), show m + n - 2 * j = (m - h) + (n + h - 2 * j) by omega,
      det_tri (n + h - 2 * j) (G n) (m - h) _ (fun i c h3 h4 h5 => ?_) (fun i hi => ?_)]
    · congr 1
      refine det_congr fun i c hi hc => ?_
      have e : ∀ p, r2 (m - j) (n - j) G H (m - h + i) p = r2 (h - j) (n - j) G H i p := fun p => by
        simp only [r2]
        by_cases h3 : i < h - j
        · rw [if_pos (by omega), if_pos h3]; congr 1; omega
        · rw [if_neg (by omega), if_neg h3]; congr 1; omega
      simp only [dM]
      by_cases h3 : c + 1 = n + h - 2 * j
      · rw [if_pos (by omega), if_pos h3]; exact e k
      · rw [if_neg (by omega), if_neg h3, e]; congr 1; omega
    · simp only [dM]
      rw [if_neg (by omega)]
      simp only [r2]
      by_cases h6 : i < m - j
      · rw [if_pos h6, xp_at]
        split
        · rfl
        · exact hG _ (by omega)
      · rw [if_neg h6, xp_at]
        split
        · rfl
        · exact hH _ (by omega)
    · simp only [dM]
      rw [if_neg (by omega)]
      simp only [r2]
      rw [if_pos (by omega), xp_at, if_neg (by omega)]
      congr 1; omega
  rw [← h2, h1, ← Int.mul_assoc, sg_sq, Int.one_mul]; rfl
/-- One step: what a pseudo-rest makes of a subresultant. -/
theorem dd_step {m n h j k : Nat} {F G H Q : Se} {e b : Int} (hnm : n ≤ m) (hh : h < n) (hj : j ≤ h) (hG : MP.Se.Bd G (n + 1)) (hH : MP.Se.Bd H (h + 1)) (hQ : MP.Se.Bd Q (m - n + 1)) (hE : MP.Se.sm e F = G * Q + MP.Se.sm b H) :
    e ^ (n - j) * dd m n j F G k = sg ((n - j) * (m - j)) * (b ^ (n - j) * ((G n) ^ (m - h) * dd n h j G H k)) := by
  rw [← dd_rest hnm (by omega) hQ hE, dd_scale hnm (by omega), dd_down hnm hh hj hG hH]
  grind
/-- At the degree of the second one. -/
theorem dd_end {m n k : Nat} {F G : Se} (hm : n < m) (hG : MP.Se.Bd G (n + 1)) : dd m n n F G k = (G n) ^ (m - n - 1) * G k := by
  unfold dd dm
  rw [show m + n - 2 * n = (m - n - 1) + 1 by omega, det_tri 1 (G n) (m - n - 1) _ (fun i c h3 h4 h5 => ?_) (fun i hi => ?_)]
  · congr 1
    have e : dM (m + n - n - 1) (m - n - 1 + 1) k (r2 (n - n) (m - n) F G) (m - n - 1 + 0) (m - n - 1 + 0) = G k := by
      simp only [dM, r2]
      rw [if_pos trivial, if_neg (show ¬ m - n - 1 + 0 < n - n by omega), xp_at, if_neg (by omega)]
      congr 1; omega
    simp only [det, sm, sg_0]
    rw [e]; simp
  · simp only [dM, r2]
    rw [if_neg (by omega), if_neg (by omega), xp_at]
    split
    · rfl
    · exact hG _ (by omega)
  · simp only [dM, r2]
    rw [if_neg (by omega), if_neg (by omega), xp_at, if_neg (by omega)]
    congr 1; omega
/-- One below the degree of the second one. -/
theorem dd_one {n k : Nat} {G H : Se} : dd (n + 1) n n G H k = H k := by
  unfold dd dm
  rw [show n + 1 + n - 2 * n = 1 by omega]
  have e : dM (n + 1 + n - n - 1) 1 k (r2 (n - n) (n + 1 - n) G H) 0 0 = H k := by
    simp only [dM, r2]
    rw [if_pos trivial, if_neg (by omega), xp_at, if_neg (by omega)]
    congr 1; omega
  simp only [det, sm, sg_0]
  rw [e]; simp
end Go.Proofs.YtbpamkpclofnbaaGreat.MS
namespace Go.Proofs.YtbpamkpclofnbaaGreat.MS
set_option linter.unusedVariables false
set_option linter.unusedSimpArgs false
open MD
open MP (Se)
/-- Numbers of a matrix at most M: then its determinant. -/
theorem det_le {M : Nat} : ∀ (n : Nat) (A : Mx), (∀ i k, (A i k).natAbs ≤ M) → (det n A).natAbs ≤ (n * M) ^ n
  | 0, A, _ => by simp [det]
  | n + 1, A, h => by
    have h1 : ∀ k, (det n (mn A 0 k)).natAbs ≤ (n * M) ^ n := fun k => det_le n _ fun i c => h _ _
    have h2 : ∀ w, (sm w fun k => sg k * A 0 k * det n (mn A 0 k)).natAbs ≤ w * (M * (n * M) ^ n) := by
      intro w
      induction w with
      | zero => simp [sm]
      | succ w ih =>
        simp only [sm]
        refine Nat.le_trans (Int.natAbs_add_le _ _) ?_
        rw [Nat.add_mul, Nat.one_mul]
        refine Nat.add_le_add ih ?_
        rw [Int.natAbs_mul, Int.natAbs_mul]
        have : (sg w).natAbs = 1 := by unfold sg; split <;> rfl
        rw [this, Nat.one_mul]
        exact Nat.mul_le_mul (h _ _) (h1 _)
    refine Nat.le_trans (h2 (n + 1)) ?_
    rw [← Nat.mul_assoc, Nat.pow_succ, Nat.mul_comm]
    exact Nat.mul_le_mul_right _ (Nat.pow_le_pow_left (Nat.mul_le_mul_right _ (Nat.le_succ n)) n)
theorem dd_le {M m n j : Nat} {F G : Se} (hF : ∀ i, (F i).natAbs ≤ M) (hG : ∀ i, (G i).natAbs ≤ M) (k : Nat) : (dd m n j F G k).natAbs ≤ ((m + n - 2 * j) * M) ^ (m + n - 2 * j) := by
  refine det_le _ _ fun i c => ?_
  have e : ∀ p, (r2 (n - j) (m - j) F G i p).natAbs ≤ M := fun p => by
    simp only [r2]
    split <;> rw [xp_at] <;> split
    · exact Nat.zero_le _
    · exact hF _
    · exact Nat.zero_le _
    · exact hG _
  simp only [dM]
  split <;> exact e _
theorem dd_le2 {M m n j : Nat} {F G : Se} (hF : ∀ i, (F i).natAbs ≤ M) (hG : ∀ i, (G i).natAbs ≤ M) (hM : 1 ≤ M) (k : Nat) : (dd m n j F G k).natAbs ≤ ((m + n) * M) ^ (m + n) := by
  rcases Nat.eq_zero_or_pos (m + n) with h | h
  · have := dd_le hF hG (m := m) (n := n) (j := j) k
    rw [h] at this ⊢; simpa using this
  · refine Nat.le_trans (dd_le hF hG k) (Nat.le_trans (Nat.pow_le_pow_left (Nat.mul_le_mul_right _ (Nat.sub_le _ _)) _) ?_)
    exact Nat.pow_le_pow_right (Nat.mul_pos h hM) (Nat.sub_le _ _)
theorem sg_abs (s : Nat) (x : Int) : (sg s * x).natAbs = x.natAbs := by
  rw [Int.natAbs_mul]
  have : (sg s).natAbs = 1 := by unfold sg; split <;> rfl
  rw [this, Nat.one_mul]
/-- What the numbers of a pseudo-remainder sequence have to do with those that it begins with. -/
structure In (m0 n0 : Nat) (p q : Se) (ε m n : Nat) (P Q : Se) (f s : Int) : Prop where
  fne : f ≠ 0
  sne : s ≠ 0
  dP : MP.Se.Dg P m
  dQ : MP.Se.Dg Q n
  le : n ≤ m
  eq : ∀ j, j ≤ n → j < m → ∃ σ, ∀ k, dd m n j P Q k = sg σ * (f ^ (n - j) * s ^ (m - j - 1) * dd m0 n0 j p q k)
  z : 0 < m → ∀ k, dd m n 0 P Q k = sg ε * (f ^ n * s ^ (m - 1) * dd m0 n0 0 p q k)
theorem In.init {p q : Se} {m n : Nat} (hp : MP.Se.Dg p m) (hq : MP.Se.Dg q n) (h : n ≤ m) : In m n p q 0 m n p q 1 1 := by
  refine ⟨by decide, by decide, hp, hq, h, fun j h1 h2 => ⟨0, fun k => ?_⟩, fun h1 k => ?_⟩
  · rw [sg_0, Int.one_pow, Int.one_pow, Int.one_mul, Int.one_mul, Int.one_mul]
  · rw [sg_0, Int.one_pow, Int.one_pow, Int.one_mul, Int.one_mul, Int.one_mul]
theorem alg {L f s s2 D X τ τ2 : Int} {δ N w : Nat} (hL : L ≠ 0) (hf : f ≠ 0) (hs : s ≠ 0) (hw : w ≤ N) (h2 : τ2 * τ2 = 1) (hs2 : L ^ δ * s = s ^ δ * s2)
    (h : (L ^ (δ + 1)) ^ (N + 1) * (τ * (f ^ (N + 1) * s ^ (δ + N) * D)) = τ2 * ((f * s ^ δ) ^ (N + 1) * (L ^ (δ + N + 1 - w) * X))) : X = τ * τ2 * (L ^ w * s2 ^ N * D) := by
  have hc : (f * s ^ δ) ^ (N + 1) * L ^ (δ + N + 1 - w) ≠ 0 := Int.mul_ne_zero (Int.pow_ne_zero (Int.mul_ne_zero hf (Int.pow_ne_zero hs))) (Int.pow_ne_zero hL)
  apply Int.eq_of_mul_eq_mul_left hc
  have e1 : (f * s ^ δ) ^ (N + 1) * L ^ (δ + N + 1 - w) * X = τ2 * ((L ^ (δ + 1)) ^ (N + 1) * (τ * (f ^ (N + 1) * s ^ (δ + N) * D))) := by
    rw [h, ← Int.mul_assoc τ2, h2, Int.one_mul, Int.mul_assoc]
  rw [e1]
  have e2 : L ^ (δ + N + 1 - w) * L ^ w = L ^ (δ + N + 1) := by rw [← Int.pow_add]; congr 1; omega
  have e3 : (L ^ (δ + 1)) ^ (N + 1) = L ^ (δ + N + 1) * (L ^ δ) ^ N := by
    rw [← Int.pow_mul, ← Int.pow_mul, ← Int.pow_add]; congr 1; rw [Nat.add_mul, Nat.mul_add]; omega
  have e4 : (f * s ^ δ) ^ (N + 1) = f ^ (N + 1) * ((s ^ δ) ^ N * s ^ δ) := by rw [Int.mul_pow, Int.pow_succ (s ^ δ)]
  have e5 : s ^ (δ + N) = s ^ δ * s ^ N := Int.pow_add _ _ _
  have e6 : (L ^ δ) ^ N * s ^ N = (s ^ δ) ^ N * s2 ^ N := by rw [← Int.mul_pow, hs2, Int.mul_pow]
  rw [e3, e4, e5]
  calc τ2 * (L ^ (δ + N + 1) * (L ^ δ) ^ N * (τ * (f ^ (N + 1) * (s ^ δ * s ^ N) * D))) = τ * τ2 * (L ^ (δ + N + 1) * f ^ (N + 1) * s ^ δ * D) * ((L ^ δ) ^ N * s ^ N) := by grind
    _ = τ * τ2 * (L ^ (δ + N + 1) * f ^ (N + 1) * s ^ δ * D) * ((s ^ δ) ^ N * s2 ^ N) := by rw [e6]
    _ = _ := by rw [← e2]; grind
section
variable {m0 n0 ε m n : Nat} {p q P Q u r : Se} {f s s2 : Int}
/-- The pseudo-rest is divided exactly. -/
theorem In.exact (I : In m0 n0 p q ε m n P Q f s) (hn : 0 < n) (hu : MP.Se.Bd u (m - n + 1)) (hr : MP.Se.Bd r n) (hE : MP.Se.sm ((Q n) ^ (m - n + 1)) P = Q * u + r) :
    ∃ σ, ∀ k, r k = f * s ^ (m - n) * (sg σ * dd m0 n0 (n - 1) p q k) := by
  obtain ⟨σ, hσ⟩ := I.eq (n - 1) (by omega) (by have := I.le; omega)
  refine ⟨σ + (m - n + 1), fun k => ?_⟩
  have h1 := dd_step (m := m) (n := n) (h := n - 1) (j := n - 1) (k := k) (F := P) (e := (Q n) ^ (m - n + 1)) (b := 1) (H := r) I.le (by omega) (Nat.le_refl _) I.dQ.2 (hr.le (by omega)) hu (by rw [MP.Se.sm_one]; exact hE)
  have hle := I.le
  have h2 : dd n (n - 1) (n - 1) Q r k = r k := by
    obtain ⟨n, rfl⟩ : ∃ a, n = a + 1 := ⟨n - 1, by omega⟩
    exact dd_one
  rw [h2, show n - (n - 1) = 1 by omega, show m - (n - 1) = m - n + 1 by omega, Int.one_pow, Int.one_mul, Int.pow_succ ((Q n) ^ (m - n + 1)) 0, Int.pow_zero, Int.one_mul, Nat.one_mul] at h1
  have h3 : dd m n (n - 1) P Q k = sg (m - n + 1) * r k := by
    apply Int.eq_of_mul_eq_mul_left (show (Q n) ^ (m - n + 1) ≠ 0 from Int.pow_ne_zero I.dQ.1)
    rw [h1]; grind
  have h4 := hσ k
  rw [h3, show n - (n - 1) = 1 by omega, show m - (n - 1) - 1 = m - n by omega, Int.pow_one] at h4
  have h5 := sg_sq (m - n + 1)
  rw [sg_add]
  calc r k = sg (m - n + 1) * (sg (m - n + 1) * r k) := by rw [← Int.mul_assoc, h5, Int.one_mul]
    _ = _ := by rw [h4]; grind
/-- The scale is divided exactly. -/
theorem In.scale (I : In m0 n0 p q ε m n P Q f s) (h : n < m) : ∃ s2 σ, (Q n) ^ (m - n) = s ^ (m - n - 1) * s2 ∧ s2 ≠ 0 ∧ s2 = sg σ * dd m0 n0 n p q n := by
  obtain ⟨σ, hσ⟩ := I.eq n (Nat.le_refl _) h
  have h1 := hσ n
  rw [dd_end h I.dQ.2, Nat.sub_self, Int.pow_zero, Int.one_mul, ← Int.pow_succ, show (m - n - 1).succ = m - n by omega] at h1
  refine ⟨sg σ * dd m0 n0 n p q n, σ, by rw [h1]; grind, fun e => ?_, rfl⟩
  rcases Int.mul_eq_zero.1 e with e | e
  · exact sg_ne _ e
  · rw [e] at h1; exact Int.pow_ne_zero I.dQ.1 (h1.trans (by simp))
/-- The next ones. -/
theorem In.next (I : In m0 n0 p q ε m n P Q f s) {R : Se} {h : Nat} (hR : MP.Se.Dg R h) (hh : h < n) (hu : MP.Se.Bd u (m - n + 1)) (hE : MP.Se.sm ((Q n) ^ (m - n + 1)) P = Q * u + MP.Se.sm (f * s ^ (m - n)) R)
    (h0 : s2 ≠ 0) (hs : m = n ∧ s2 = s ∨ n < m ∧ (Q n) ^ (m - n) = s ^ (m - n - 1) * s2) : In m0 n0 p q (ε + n * m) n h Q R (Q n) s2 := by
  have hle := I.le
  have hs2 : (Q n) ^ (m - n) * s = s ^ (m - n) * s2 := by
    rcases hs with ⟨h1, h2⟩ | ⟨h1, h2⟩
    · rw [h1, Nat.sub_self, h2, Int.pow_zero, Int.pow_zero]
    · rw [h2, show s ^ (m - n) = s ^ (m - n - 1) * s by rw [← Int.pow_succ]; congr 1; omega]; grind
  have key : ∀ j k σ, j ≤ h → dd m n j P Q k = sg σ * (f ^ (n - j) * s ^ (m - j - 1) * dd m0 n0 j p q k) → dd n h j Q R k = sg (σ + (n - j) * (m - j)) * ((Q n) ^ (h - j) * s2 ^ (n - j - 1) * dd m0 n0 j p q k) := fun j k σ hj hσ => by
    have h1 := dd_step (m := m) (n := n) (h := h) (j := j) (k := k) hle hh hj I.dQ.2 hR.2 hu hE
    rw [hσ] at h1
    rw [sg_add]
    refine alg (δ := m - n) (N := n - j - 1) (w := h - j) I.dQ.1 I.fne I.sne (by omega) (sg_sq _) hs2 ?_
    rw [show n - j - 1 + 1 = n - j by omega, show m - n + (n - j - 1) = m - j - 1 by omega, show m - j - 1 + 1 - (h - j) = m - h by omega]
    exact h1
  refine ⟨I.dQ.1, h0, I.dQ, hR, Nat.le_of_lt hh, fun j h1 h2 => ?_, fun h1 k => ?_⟩
  · obtain ⟨σ, hσ⟩ := I.eq j (by omega) (by omega)
    exact ⟨_, fun k => key j k σ h1 (hσ k)⟩
  · have := key 0 k ε (Nat.zero_le _) (I.z (by omega) k)
    simpa using this
/-- At the end: a constant is left. -/
theorem In.last (I : In m0 n0 p q ε m 0 P Q f s) (hm : 0 < m) : (Q 0) ^ m = s ^ (m - 1) * (sg ε * dd m0 n0 0 p q 0) := by
  have h1 := I.z hm 0
  rw [dd_end hm I.dQ.2, Int.pow_zero, Int.one_mul, ← Int.pow_succ, show (m - 0 - 1).succ = m by omega] at h1
  rw [h1]; grind
end
/-- The pseudo-rest, with as many powers as there are steps. -/
theorem pseudoT {p q : Se} {n : Nat} (hq : MP.Se.Dg q n) : ∀ (T : Nat) {p : Se}, MP.Se.Bd p (n + T) → ∃ u r, MP.Se.Bd u T ∧ MP.Se.Bd r n ∧ MP.Se.sm ((q n) ^ T) p = q * u + r
  | 0, p, h => ⟨MP.Se.c 0, p, MP.Se.Bd.c0 0, h, by rw [Int.pow_zero, MP.Se.sm_one, MP.Se.mul_zero, MP.Se.zero_add]⟩
  | T + 1, p, h => by
    let x : Se := MP.Se.mo T (p (n + T))
    have hx : MP.Se.Bd x (T + 1) := MP.Se.mo_bd _ _
    have hb2 : MP.Se.Bd (MP.Se.sm (q n) p - q * x) (n + T) := fun i hi => by
      rw [MP.Se.sub_at, MP.Se.sm_at, MP.Se.mul_comm, MP.Se.mo_mul_at, if_neg (by omega)]
      rcases Nat.eq_or_lt_of_le hi with e | e
      · rw [← e, Nat.add_sub_cancel]; exact (by grind : q n * p (n + T) - p (n + T) * q n = 0)
      · rw [h i (by omega), hq.2 (i - T) (by omega)]; simp
    obtain ⟨u, r, h4, h5, h6⟩ := pseudoT (p := p) hq T hb2
    refine ⟨u + MP.Se.sm ((q n) ^ T) x, r, (h4.le (by omega)).add hx.sm, h5, ?_⟩
    rw [Int.pow_succ, ← MP.Se.sm_sm, MP.Se.mul_add, MP.Se.mul_sm]
    refine MP.Se.ext fun i => ?_
    have := congrArg (fun f => f i) h6
    simp only [MP.Se.sm_at, MP.Se.add_at, MP.Se.sub_at] at this ⊢
    grind
end Go.Proofs.YtbpamkpclofnbaaGreat.MS
namespace Go.Proofs.YtbpamkpclofnbaaGreat.MP
set_option linter.unusedVariables false
set_option linter.unusedSimpArgs false
namespace Se
variable {p q r s t g h : Se} {a b d e l : Int} {m n k i j : Nat}
/-- Every coefficient is divided by d. -/
def Ad (d : Int) (p : Se) : Prop := ∀ i, d ∣ p i
/-- A prime number. -/
def Pr (l : Int) : Prop := 2 ≤ l ∧ ∀ a b : Int, l ∣ a * b → l ∣ a ∨ l ∣ b
/-- A number's prime divisor. -/
theorem has_prime {n : Nat} (hn : 2 ≤ n) : ∃ l : Int, Pr l ∧ l ∣ (n : Int) := by
  induction n using Nat.strongRecOn with
  | ind n ih =>
    by_cases hd : ∃ d, 2 ≤ d ∧ d < n ∧ d ∣ n
    · obtain ⟨d, h1, h2, h3⟩ := hd
      obtain ⟨l, h4, h5⟩ := ih d h2 h1
      exact ⟨l, h4, Int.dvd_trans h5 (Int.natCast_dvd_natCast.2 h3)⟩
    · refine ⟨n, ⟨by omega, fun a b hab => ?_⟩, Int.dvd_refl _⟩
      by_cases ha : (n : Int) ∣ a
      · exact .inl ha
      · refine .inr ?_
        have h1 : Nat.gcd n a.natAbs = 1 := by
          have h2 := Nat.gcd_dvd_left n a.natAbs
          have h3 := Nat.gcd_dvd_right n a.natAbs
          have h4 : 0 < Nat.gcd n a.natAbs := Nat.gcd_pos_of_pos_left _ (by omega)
          have h5 := Nat.le_of_dvd (by omega) h2
          rcases Nat.lt_or_ge (Nat.gcd n a.natAbs) 2 with h6 | h6
          · omega
          · rcases Nat.lt_or_ge (Nat.gcd n a.natAbs) n with h7 | h7
            · exact absurd ⟨_, h6, h7, h2⟩ hd
            · have h8 : Nat.gcd n a.natAbs = n := by omega
              rw [h8] at h3
              exact absurd (Int.ofNat_dvd_left.2 h3) ha
        have h2 : n ∣ a.natAbs * b.natAbs := by rw [← Int.natAbs_mul]; exact Int.ofNat_dvd_left.1 hab
        exact Int.ofNat_dvd_left.2 (Nat.Coprime.dvd_of_dvd_mul_left h1 h2)
theorem Ad.sm (h : Ad d p) : Ad d (Se.sm a p) := fun i => Int.dvd_trans (h i) (Int.dvd_mul_left _ _)
theorem Ad.of_sm : Ad a (Se.sm a p) := fun i => Int.dvd_mul_right _ _
theorem Ad.tl (h : Ad d p) : Ad d (Se.tl p) := fun i => h (i + 1)
theorem Ad.mul (h : Ad d p) (q : Se) : Ad d (p * q) := by
  intro k
  induction k generalizing p with
  | zero => exact Int.dvd_trans (h 0) (Int.dvd_mul_right _ _)
  | succ k ih => rw [mul_at]; exact Int.dvd_add (Int.dvd_trans (h 0) (Int.dvd_mul_right _ _)) (ih h.tl)
theorem Ad.trans (hd : e ∣ d) (h : Ad d p) : Ad e p := fun i => Int.dvd_trans hd (h i)
/-- What is divided by d is d times another one. -/
theorem Ad.div (h : Ad d p) (hp : Fn p) : ∃ s, Fn s ∧ p = Se.sm d s := by
  by_cases h0 : d = 0
  · refine ⟨Se.c 0, Fn.c 0, ext fun i => ?_⟩
    have := h i
    rw [h0, Int.zero_dvd] at this
    rw [this, h0, sm_at, Int.zero_mul]
  · obtain ⟨n, hb⟩ := hp
    refine ⟨fun i => p i / d, ⟨n, fun i hi => ?_⟩, ext fun i => ?_⟩
    · show p i / d = 0
      rw [hb i hi, Int.zero_ediv]
    · exact (Int.mul_ediv_cancel' (h i)).symm
/-- At the first coefficients that l doesn't divide, the product's isn't divided. -/
theorem lead_mod (hi : ∀ k, k < i → l ∣ p k) (hj : ∀ k, k < j → l ∣ q k) : l ∣ (p * q) (i + j) - p i * q j := by
  induction i generalizing p with
  | zero =>
    rw [Nat.zero_add]
    induction j generalizing q with
    | zero => rw [mul_0, Int.sub_self]; exact Int.dvd_zero l
    | succ j ih =>
      rw [mul_at']
      have h1 := ih (q := tl q) fun k hk => hj (k + 1) (by omega)
      have h2 := Int.dvd_trans (hj 0 (by omega)) (Int.dvd_mul_right (q 0) (p (j + 1)))
      have := Int.dvd_add h2 h1
      rw [tl_at] at this
      rwa [show q 0 * p (j + 1) + ((p * tl q) j - p 0 * q (j + 1)) = q 0 * p (j + 1) + (p * tl q) j - p 0 * q (j + 1) by omega] at this
  | succ i ih =>
    rw [show i + 1 + j = i + j + 1 by omega, mul_at]
    have h1 := ih (p := tl p) fun k hk => hi (k + 1) (by omega)
    have h2 := Int.dvd_trans (hi 0 (by omega)) (Int.dvd_mul_right (p 0) (q (i + j + 1)))
    have := Int.dvd_add h2 h1
    rw [tl_at] at this
    rwa [show p 0 * q (i + j + 1) + ((tl p * q) (i + j) - p (i + 1) * q j) = p 0 * q (i + j + 1) + (tl p * q) (i + j) - p (i + 1) * q j by omega] at this
theorem first_not {P : Nat → Prop} (h : ∃ i, ¬ P i) : ∃ i, ¬ P i ∧ ∀ k, k < i → P k := by
  obtain ⟨i, h⟩ := h
  induction i using Nat.strongRecOn with
  | ind i ih =>
    by_cases hk : ∃ k, k < i ∧ ¬ P k
    · obtain ⟨k, h1, h2⟩ := hk
      exact ih k h1 h2
    · exact ⟨i, h, fun k hk2 => Classical.byContradiction fun h3 => hk ⟨k, hk2, h3⟩⟩
theorem prime_ad (hl : Pr l) (h : Ad l (p * q)) : Ad l p ∨ Ad l q := by
  refine Classical.byContradiction fun hn => ?_
  have h1 : ¬ Ad l p := fun k => hn (.inl k)
  have h2 : ¬ Ad l q := fun k => hn (.inr k)
  obtain ⟨i, hi, hi2⟩ := first_not (Classical.not_forall.1 h1)
  obtain ⟨j, hj, hj2⟩ := first_not (Classical.not_forall.1 h2)
  have h3 := lead_mod hi2 hj2
  have h4 := Int.dvd_sub (h (i + j)) h3
  rw [show (p * q) (i + j) - ((p * q) (i + j) - p i * q j) = p i * q j by omega] at h4
  rcases hl.2 _ _ h4 with h5 | h5
  · exact hi h5
  · exact hj h5
/-- No number but 1 and -1 divides all. -/
def Pm (p : Se) : Prop := ∀ l, Pr l → ¬ Ad l p
theorem Pm.ne (h : Pm p) : p ≠ Se.c 0 := by
  rintro rfl
  obtain ⟨l, hl, _⟩ := has_prime (n := 2) (by omega)
  exact h l hl fun i => by cases i <;> exact Int.dvd_zero l
theorem Pm.mul (hp : Pm p) (hq : Pm q) : Pm (p * q) := fun l hl h => by
  rcases prime_ad hl h with k | k
  · exact hp l hl k
  · exact hq l hl k
theorem Pm.neg (h : Pm p) : Pm (-p) := fun l hl k => h l hl fun i => by have := k i; rwa [neg_at, Int.dvd_neg] at this
/-- Gauss. -/
theorem gauss_nat : ∀ {n : Nat}, 0 < n → ∀ {t}, Pm g → Ad n (g * t) → Fn t → Ad n t := by
  intro n
  induction n using Nat.strongRecOn with
  | ind n ih =>
    intro hn t hg h ht
    rcases Nat.lt_or_ge n 2 with h2 | h2
    · have : n = 1 := by omega
      subst this
      exact fun i => Int.one_dvd _
    · obtain ⟨l, hl, k, hk⟩ := has_prime h2
      have hl2 := hl.1
      have hk0 : 0 < k := by
        rcases Int.lt_or_le 0 k with h | h
        · exact h
        · have := Int.mul_nonpos_of_nonneg_of_nonpos (show 0 ≤ l by omega) h; omega
      obtain ⟨κ, rfl⟩ : ∃ κ : Nat, k = κ := ⟨k.toNat, by omega⟩
      have hlt : κ < n := by
        have : 2 * (κ : Int) ≤ l * κ := Int.mul_le_mul_of_nonneg_right hl2 (by omega)
        omega
      rcases prime_ad hl (h.trans ⟨κ, hk⟩) with h3 | h3
      · exact absurd h3 (hg l hl)
      · obtain ⟨t', ht', rfl⟩ := h3.div ht
        rw [mul_sm] at h
        have h4 : Ad κ (g * t') := fun i => by
          have := h i
          rw [hk, sm_at] at this
          exact Int.dvd_of_mul_dvd_mul_left (by omega) this
        have h5 := ih κ hlt (by omega) hg h4 ht'
        intro i
        rw [hk, sm_at]
        exact Int.mul_dvd_mul_left l (h5 i)
theorem gauss (hd : d ≠ 0) (hg : Pm g) (h : Ad d (g * t)) (ht : Fn t) : Ad d t := by
  have h1 : Ad (d.natAbs : Int) (g * t) := h.trans (Int.natAbs_dvd.2 (Int.dvd_refl d))
  exact (gauss_nat (by omega) hg h1 ht).trans (Int.dvd_natAbs.2 (Int.dvd_refl d))
/-- A primitive one that divides a number's multiple divides. -/
theorem Dv.of_sm (hd : d ≠ 0) (hg : Pm g) (h : Dv g (Se.sm d s)) : Dv g s := by
  obtain ⟨t, ht, e⟩ := h
  have h1 : Ad d (g * t) := e ▸ Ad.of_sm
  obtain ⟨t', ht', rfl⟩ := (gauss hd hg h1 ht).div ht
  exact ⟨t', ht', sm_cancel hd (by rw [e, mul_sm])⟩
/-- What a number times a primitive one divides. -/
theorem dv_parts (ha : a ≠ 0) (hb : b ≠ 0) (hg : Pm g) (hh : Pm h) (hfh : Fn h) : Dv (Se.sm a g) (Se.sm b h) ↔ a ∣ b ∧ Dv g h := by
  constructor
  · rintro ⟨t, ht, e⟩
    have h1 : Dv g (Se.sm b h) := ⟨Se.sm a t, ht.sm, by rw [e, sm_mul, mul_sm]⟩
    have h2 := h1.of_sm hb hg
    refine ⟨?_, h2⟩
    have h3 : Ad a (h * Se.c b) := by rw [mul_c, e, sm_mul]; exact Ad.of_sm
    exact gauss ha hh h3 (Fn.c b) 0
  · rintro ⟨⟨k, rfl⟩, t, ht, rfl⟩
    exact ⟨Se.sm k t, ht.sm, by rw [mul_sm, sm_mul, sm_sm, Int.mul_comm]⟩
/-- The greatest common divisor of the coefficients. -/
def Ct (d : Int) (p : Se) : Prop := 0 ≤ d ∧ ∀ e, Ad e p ↔ e ∣ d
theorem Ct.uniq (h : Ct d p) (h2 : Ct e p) : d = e :=
  Int.dvd_antisymm h.1 h2.1 ((h2.2 d).1 ((h.2 d).2 (Int.dvd_refl d))) ((h.2 e).1 ((h2.2 e).2 (Int.dvd_refl e)))
theorem Ct.ex (hp : Fn p) : ∃ d, Ct d p := by
  refine Fn.ind (P := fun p => ∃ d, Ct d p) ⟨0, by omega, fun e => ⟨fun _ => Int.dvd_zero e, fun _ i => by cases i <;> exact Int.dvd_zero e⟩⟩ (fun p hp ih => ?_) hp
  obtain ⟨d, h1, h2⟩ := ih
  refine ⟨(Int.gcd (p 0) d : Nat), by omega, fun e => ⟨fun h => ?_, fun h i => ?_⟩⟩
  · exact Int.dvd_coe_gcd (h 0) ((h2 e).1 h.tl)
  · cases i with
    | zero => exact Int.dvd_trans h (Int.gcd_dvd_left _ _)
    | succ i => exact (h2 e).2 (Int.dvd_trans h (Int.gcd_dvd_right _ _)) i
theorem Ct.ne (h : Ct d p) (h0 : p ≠ Se.c 0) : d ≠ 0 := fun e => h0 (ext fun i => by
  have := (h.2 0).2 (e ▸ Int.dvd_refl _) i
  rw [Int.zero_dvd.1 this]; cases i <;> rfl)
/-- Each is its content times a primitive one. -/
theorem Ct.div (h : Ct d p) (hp : Fn p) (h0 : p ≠ Se.c 0) : ∃ s, Fn s ∧ Pm s ∧ p = Se.sm d s := by
  have hd := h.ne h0
  obtain ⟨s, hs, e⟩ := ((h.2 d).2 (Int.dvd_refl d)).div hp
  refine ⟨s, hs, fun l hl hk => ?_, e⟩
  have h1 : Ad (d * l) p := fun i => by rw [e, sm_at]; exact Int.mul_dvd_mul_left d (hk i)
  have h2 := (h.2 _).1 h1
  obtain ⟨k, hk⟩ := h2
  have h3 : l * k = 1 := Int.eq_of_mul_eq_mul_left hd (by rw [← Int.mul_assoc, ← hk, Int.mul_one])
  have h4 : l ∣ 1 := ⟨k, h3.symm⟩
  have := Int.le_of_dvd (by omega) h4
  have := hl.1
  omega
theorem Ct.of (hd : 0 ≤ d) (hs : Pm s) (hf : Fn s) : Ct d (Se.sm d s) := by
  refine ⟨hd, fun e => ⟨fun h => ?_, fun h => Ad.of_sm.trans h⟩⟩
  by_cases h0 : e = 0
  · subst h0
    have h1 := fun i => Int.zero_dvd.1 (h i)
    refine Classical.byContradiction fun k => hs.ne (sm_cancel (a := d) (fun e => k (by rw [e]; exact Int.dvd_refl 0)) (ext fun i => ?_))
    rw [h1 i, sm_at]
    cases i <;> simp [Se.c]
  · have h1 : Ad e (s * Se.c d) := by rw [mul_c]; exact h
    exact gauss h0 hs h1 (Fn.c d) 0
/-- A product of primitive ones' numbers. -/
theorem prim_split (hp : Fn p) (h0 : p ≠ Se.c 0) : ∃ d s, d ≠ 0 ∧ Fn s ∧ Pm s ∧ p = Se.sm d s := by
  obtain ⟨d, h⟩ := Ct.ex hp
  obtain ⟨s, h1, h2, h3⟩ := h.div hp h0
  exact ⟨d, s, h.ne h0, h1, h2, h3⟩
end Se
end Go.Proofs.YtbpamkpclofnbaaGreat.MP
namespace Go.Proofs.YtbpamkpclofnbaaGreat.MP
set_option linter.unusedVariables false
set_option linter.unusedSimpArgs false
namespace Se
variable {p q r s t g h f v w u : Se} {a b d e l : Int} {m n k i j : Nat}
/-- A number's multiple of p is q times something and a rest. -/
theorem pseudo (hq : Dg q n) (hp : Fn p) : ∃ (L : Int) (t r : Se), L ≠ 0 ∧ Fn t ∧ Bd r n ∧ Se.sm L p = q * t + r := by
  obtain ⟨m, hb⟩ := hp
  induction m generalizing p with
  | zero => exact ⟨1, Se.c 0, p, by omega, Fn.c 0, hb.le (by omega), by rw [sm_one, mul_zero, zero_add]⟩
  | succ m ih =>
    rcases Nat.lt_or_ge m n with h | h
    · exact ⟨1, Se.c 0, p, by omega, Fn.c 0, hb.le (by omega), by rw [sm_one, mul_zero, zero_add]⟩
    · -- take the lead away
      obtain ⟨k, rfl⟩ : ∃ k, m = n + k := ⟨m - n, by omega⟩
      let x : Se := fun i => if i = k then p (n + k) else 0
      have hx : Bd x (k + 1) := fun i hi => if_neg (by omega)
      have hx0 : x k = p (n + k) := if_pos rfl
      have ⟨h1, h2⟩ := mul_bd hq.2 hx
      have hb2 : Bd (Se.sm (q n) p - q * x) (n + k) := fun i hi => by
        rw [sub_at, sm_at]
        rcases Nat.eq_or_lt_of_le hi with e | e
        · rw [← e, h2, hx0]; omega
        · rw [hb i e, h1 i e]; omega
      obtain ⟨L, t, r, h3, h4, h5, h6⟩ := ih hb2
      refine ⟨L * q n, t + Se.sm L x, r, Int.mul_ne_zero h3 hq.1, h4.add (Fn.sm ⟨_, hx⟩), h5, ?_⟩
      rw [← sm_sm, mul_add, mul_sm]
      refine ext fun i => ?_
      have := congrArg (fun f => f i) h6
      simp only [sm_at, add_at, sub_at] at this ⊢
      grind
/-- The greatest common divisor. -/
structure Gc (d p q : Se) : Prop where
  fn : Fn d
  left : Dv d p
  right : Dv d q
  gr : ∀ h, Fn h → Dv h p → Dv h q → Dv h d
theorem Gc.symm (h : Gc g p q) : Gc g q p := ⟨h.fn, h.right, h.left, fun x hx h1 h2 => h.gr x hx h2 h1⟩
theorem Dv.pm (h : Dv p q) (hq : Pm q) : Pm p := fun l hl k => hq l hl (by obtain ⟨t, _, rfl⟩ := h; exact k.mul t)
theorem gc_prim : ∀ (n : Nat) {p q : Se}, Fn p → Pm p → Bd q n → (q ≠ Se.c 0 → Pm q) → ∃ d, Fn d ∧ Pm d ∧ Dv d p ∧ Dv d q ∧ ∀ h, Fn h → Pm h → Dv h p → Dv h q → Dv h d := by
  intro n
  induction n using Nat.strongRecOn with
  | ind n ih =>
    intro p q hp hpm hq hqm
    by_cases h0 : q = Se.c 0
    · subst h0
      exact ⟨p, hp, hpm, Dv.refl p, Dv.zero, fun h _ _ h1 _ => h1⟩
    · have hqm := hqm h0
      obtain ⟨k, hk, hkn⟩ := hq.dg h0
      obtain ⟨L, t, r, h1, h2, h3, h4⟩ := pseudo hk hp
      by_cases hr : r = Se.c 0
      · rw [hr, add_zero] at h4
        exact ⟨q, hk.fn, hqm, Dv.of_sm h1 hqm (h4 ▸ Dv.right h2), Dv.refl q, fun h _ _ _ h => h⟩
      · obtain ⟨e, s, h5, h6, h7, h8⟩ := prim_split ⟨_, h3⟩ hr
        have hb : Bd s k := fun i hi => by
          have := h3 i hi
          rw [h8, sm_at] at this
          rcases Int.mul_eq_zero.1 this with h | h
          · exact absurd h h5
          · exact h
        obtain ⟨d, d1, d2, d3, d4, d5⟩ := ih k hkn hk.fn hqm hb fun _ => h7
        refine ⟨d, d1, d2, ?_, d3, fun h x1 x2 x3 x4 => d5 h x1 x2 x4 ?_⟩
        · refine Dv.of_sm h1 d2 ?_
          rw [h4, h8]
          exact (d3.mul h2).add d4.sm
        · refine Dv.of_sm h5 x2 ?_
          have e2 : Se.sm e s = Se.sm L p - q * t := by
            rw [← h8, h4]
            refine ext fun i => ?_
            simp only [add_at, sub_at]; omega
          rw [e2]
          exact x3.sm.sub (x4.mul h2)
theorem Gc.ex (hp : Fn p) (hq : Fn q) : ∃ d, Gc d p q := by
  by_cases h1 : p = Se.c 0
  · subst h1; exact ⟨q, hq, Dv.zero, Dv.refl q, fun _ _ _ h => h⟩
  by_cases h2 : q = Se.c 0
  · subst h2; exact ⟨p, hp, Dv.refl p, Dv.zero, fun _ _ h _ => h⟩
  obtain ⟨a, s, a1, a2, a3, rfl⟩ := prim_split hp h1
  obtain ⟨b, t, b1, b2, b3, rfl⟩ := prim_split hq h2
  obtain ⟨n, hn⟩ := b2
  obtain ⟨d, d1, d2, d3, d4, d5⟩ := gc_prim n a2 a3 hn fun _ => b3
  have b2 : Fn t := ⟨n, hn⟩
  have hg : ((Int.gcd a b : Nat) : Int) ≠ 0 := by
    have := Int.gcd_pos_of_ne_zero_left b a1
    omega
  refine ⟨Se.sm (Int.gcd a b) d, d1.sm, (dv_parts hg a1 d2 a3 a2).2 ⟨Int.gcd_dvd_left _ _, d3⟩, (dv_parts hg b1 d2 b3 b2).2 ⟨Int.gcd_dvd_right _ _, d4⟩, fun h x1 x2 x3 => ?_⟩
  have hne : h ≠ Se.c 0 := by
    rintro rfl
    obtain ⟨k, _, e⟩ := x2
    exact sm_ne a1 a3.ne (by rw [e, zero_mul])
  obtain ⟨c, u, c1, c2, c3, rfl⟩ := prim_split x1 hne
  have y1 := (dv_parts c1 a1 c3 a3 a2).1 x2
  have y2 := (dv_parts c1 b1 c3 b3 b2).1 x3
  exact (dv_parts c1 hg c3 d2 d1).2 ⟨Int.dvd_coe_gcd y1.1 y2.1, d5 u c2 c3 y1.2 y2.2⟩
theorem unit_of (hs : Fn s) (ht : Fn t) (e : s * t = Se.c 1) : s = Se.c 1 ∨ s = Se.c (-1) := by
  have h1 : Se.c 1 ≠ Se.c 0 := fun e => by have := c_inj e; omega
  have hs0 : s ≠ Se.c 0 := fun k => h1 (by rw [← e, k, zero_mul])
  have ht0 : t ≠ Se.c 0 := fun k => h1 (by rw [← e, k, mul_zero])
  obtain ⟨m, hm⟩ := hs.dg hs0; obtain ⟨n, hn⟩ := ht.dg ht0
  have h2 : Dg (Se.c 1) 0 := ⟨by simp [Se.c], Bd.c 1⟩
  have h3 := (e ▸ hm.mul hn).uniq h2
  obtain rfl : m = 0 := by omega
  have e1 : s = Se.c (s 0) := by conv => lhs; rw [split s, hm.2.tl.zero, sh_zero, add_zero]
  have e2 := congrArg (fun f => f 0) e
  simp only [mul_0, Se.c_0] at e2
  have e3 : (s 0).natAbs = 1 := Nat.dvd_one.1 (Int.natAbs_dvd_natAbs.2 ⟨t 0, by rw [e2]⟩)
  rcases (show s 0 = 1 ∨ s 0 = -1 by omega) with h | h
  · exact .inl (by rw [e1, h])
  · exact .inr (by rw [e1, h])
/-- Two that divide each other. -/
theorem assoc (hp : Fn p) (hq : Fn q) (h : Dv p q) (h2 : Dv q p) : q = p ∨ q = -p := by
  obtain ⟨s, hs, e⟩ := h; obtain ⟨t, ht, e2⟩ := h2
  by_cases h0 : p = Se.c 0
  · left; rw [e, h0, zero_mul]
  · have h1 : s * t = Se.c 1 := mul_cancel hp h0 (hs.mul ht) (Fn.c 1) (by rw [← mul_assoc, ← e, ← e2, mul_one])
    rcases unit_of hs ht h1 with k | k
    · left; rw [e, k, mul_one]
    · right; rw [e, k, mul_c, sm_neg]
theorem Gc.uniq (h : Gc g p q) (h2 : Gc f p q) : f = g ∨ f = -g := assoc h.fn h2.fn (h2.gr g h.fn h.left h.right) (h.gr f h2.fn h2.left h2.right)
/-- With leads above 0. -/
theorem Gc.same (h : Gc g p q) (h2 : Gc f p q) (h3 : Dg g m) (h4 : 0 < g m) (h5 : Dg f n) (h6 : 0 < f n) : f = g ∧ n = m := by
  rcases h.uniq h2 with k | k
  · subst k; exact ⟨rfl, h5.uniq h3⟩
  · have : n = m := h5.uniq (k ▸ ⟨by rw [neg_at]; have := h3.1; omega, h3.2.neg⟩)
    subst this
    rw [k, neg_at] at h6
    omega
theorem Gc.mul (h : Gc g p q) (hp : Fn p) (hq : Fn q) (hr : Fn r) (h0 : r ≠ Se.c 0) : Gc (g * r) (p * r) (q * r) := by
  obtain ⟨e, he⟩ := Gc.ex (hp.mul hr) (hq.mul hr)
  obtain ⟨u, hu, e1⟩ := he.gr r hr (Dv.left hp) (Dv.left hq)
  have h1 : Dv u p := Dv.can hr h0 hu hp (by rw [← e1, mul_comm r p]; exact he.left)
  have h2 : Dv u q := Dv.can hr h0 hu hq (by rw [← e1, mul_comm r q]; exact he.right)
  have h3 : Dv e (g * r) := by rw [e1, mul_comm r u]; exact (h.gr u hu h1 h2).mul2 r
  exact ⟨h.fn.mul hr, h.left.mul2 r, h.right.mul2 r, fun x hx x1 x2 => (he.gr x hx x1 x2).trans h3⟩
/-- Nothing in common. -/
theorem euclid (h : Gc (Se.c 1) f p) (hf : Fn f) (hp : Fn p) (hq : Fn q) (hd : Dv f (p * q)) : Dv f q := by
  by_cases h0 : q = Se.c 0
  · exact h0 ▸ Dv.zero
  · have := (h.mul hf hp hq h0).gr f hf (Dv.right hq) hd
    rwa [one_mul] at this
/-- What is left has nothing in common. -/
theorem Gc.left_one (h : Gc g (p * g) (q * g)) (hp : Fn p) (hq : Fn q) (h0 : g ≠ Se.c 0) : Gc (Se.c 1) p q := by
  obtain ⟨e, he⟩ := Gc.ex hp hq
  have h1 := he.mul hp hq h.fn h0
  have h2 : Dv e (Se.c 1) := Dv.can h.fn h0 he.fn (Fn.c 1) (by rw [mul_one, mul_comm]; exact h.gr _ h1.fn h1.left h1.right)
  exact ⟨Fn.c 1, ⟨p, hp, (one_mul p).symm⟩, ⟨q, hq, (one_mul q).symm⟩, fun x hx x1 x2 => (he.gr x hx x1 x2).trans h2⟩
end Se
end Go.Proofs.YtbpamkpclofnbaaGreat.MP
namespace Go.Proofs.YtbpamkpclofnbaaGreat.MP
set_option linter.unusedVariables false
set_option linter.unusedSimpArgs false
namespace Se
variable {p q r s t g h f v w u : Se} {a b d e l : Int} {m n k i j : Nat}
/-- s to the power n. -/
def pw (s : Se) : Nat → Se
  | 0 => c 1
  | n + 1 => s * pw s n
theorem Fn.pw (hs : Fn s) : ∀ n, Fn (Se.pw s n)
  | 0 => Fn.c 1
  | n + 1 => hs.mul (Fn.pw hs n)
/-- Of degree 1 at least, and of no two such. -/
structure Ir (f : Se) : Prop where
  fn : Fn f
  pm : Pm f
  pos : ∃ k, Dg f (k + 1)
  irr : ∀ a b, Fn a → Fn b → f = a * b → Dg a 0 ∨ Dg b 0
theorem const_of (h : Dg s 0) : s = Se.c (s 0) := by conv => lhs; rw [split s, h.2.tl.zero, sh_zero, add_zero]
theorem one_of (h : Dg s 0) (hp : Pm s) : s = Se.c 1 ∨ s = Se.c (-1) := by
  have e := const_of h
  rcases Nat.lt_or_ge (s 0).natAbs 2 with h2 | h2
  · have := h.1
    rcases (show s 0 = 1 ∨ s 0 = -1 by omega) with k | k
    · left; rw [e, k]
    · right; rw [e, k]
  · obtain ⟨l, hl, hd⟩ := has_prime h2
    refine absurd (fun i => ?_) (hp l hl)
    rw [e]
    cases i with
    | zero => exact Int.dvd_natAbs.1 hd
    | succ i => exact Int.dvd_zero l
theorem mul_neg_one (p : Se) : p * Se.c (-1) = -p := by rw [mul_c, sm_neg]
theorem Dv.of_neg (h : Dv p (-q)) : Dv p q := by
  have := h.neg
  rwa [show -(-q) = q from ext fun i => by simp only [neg_at]; omega] at this
theorem Dv.neg_left (h : Dv p q) : Dv (-p) q := by
  obtain ⟨t, ht, rfl⟩ := h
  exact ⟨-t, ht.neg, by rw [neg_mul, mul_neg]; exact ext fun i => by simp only [neg_at]; omega⟩
theorem Dv.ne (h : Dv p q) (h0 : q ≠ Se.c 0) : p ≠ Se.c 0 := by
  rintro rfl
  obtain ⟨t, _, rfl⟩ := h
  exact h0 (zero_mul t)
/-- An irreducible one is prime. -/
theorem Ir.prime (hf : Ir f) (hp : Fn p) (hq : Fn q) (h : Dv f (p * q)) : Dv f p ∨ Dv f q := by
  by_cases hk : Dv f p
  · exact .inl hk
  · refine .inr (euclid ?_ hf.fn hp hq h)
    refine ⟨Fn.c 1, ⟨f, hf.fn, (one_mul f).symm⟩, ⟨p, hp, (one_mul p).symm⟩, fun x hx x1 x2 => ?_⟩
    obtain ⟨b, hb, e⟩ := x1
    rcases hf.irr x b hx hb e with k | k
    · rcases one_of k (Dv.pm ⟨b, hb, e⟩ hf.pm) with k | k
      · rw [k]; exact Dv.refl _
      · rw [k]; exact ⟨Se.c (-1), Fn.c _, by rw [c_mul, c_sm]; rfl⟩
    · rcases one_of k (Dv.pm ⟨x, hx, by rw [e, mul_comm]⟩ hf.pm) with k | k
      · rw [k, mul_one] at e; exact absurd (e ▸ x2) hk
      · rw [k, mul_neg_one] at e; exact absurd (e ▸ x2.neg_left) hk
theorem Dg.dr (h : Dg p (n + 1)) : Dg (Se.dr p) n := by
  refine ⟨?_, fun i hi => ?_⟩
  · rw [dr_at]; exact Int.mul_ne_zero (by omega) h.1
  · rw [dr_at, h.2 _ (by omega), Int.mul_zero]
/-- How often an irreducible one divides. -/
theorem Ir.often (hf : Ir f) (hw : Fn w) (h0 : w ≠ Se.c 0) : ∃ n v, Fn v ∧ w = pw f n * v ∧ ¬ Dv f v := by
  obtain ⟨m, hm⟩ := hw.dg h0
  induction m using Nat.strongRecOn generalizing w with
  | ind m ih =>
    by_cases hd : Dv f w
    · obtain ⟨t, ht, rfl⟩ := hd
      have ht0 : t ≠ Se.c 0 := fun k => h0 (by rw [k, mul_zero])
      obtain ⟨j, hj⟩ := ht.dg ht0
      obtain ⟨k, hk⟩ := hf.pos
      have := (hk.mul hj).uniq hm
      obtain ⟨n, v, h1, h2, h3⟩ := ih j (by omega) ht ht0 hj
      exact ⟨n + 1, v, h1, by rw [h2, pw, mul_assoc], h3⟩
    · exact ⟨0, w, hw, by rw [pw, one_mul], hd⟩
end Se
end Go.Proofs.YtbpamkpclofnbaaGreat.MP
namespace Go.Proofs.YtbpamkpclofnbaaGreat
open Go.RowKit
open MP.Se (nf co)
set_option linter.unusedVariables false
set_option maxRecDepth 100000

end Go.Proofs.YtbpamkpclofnbaaGreat
namespace Go.Proofs.YtbpamkpclofnbaaGreat
open Go.RowKit
open MP.Se (nf co)
set_option linter.unusedVariables false
set_option maxRecDepth 100000

set_option maxHeartbeats 4000000
end Go.Proofs.YtbpamkpclofnbaaGreat
namespace Go.Proofs.YtbpamkpclofnbaaGreat.MS
set_option linter.unusedVariables false
set_option linter.unusedSimpArgs false
open MP (Se)
/-- What the primitive list of a list is. -/
structure Pr (l : List Int) (P : List Int) (d : Int) : Prop where
  ne : d ≠ 0
  nm : MP.Se.Nm P
  eq : MP.Se.co l = MP.Se.sm d (MP.Se.co P)
  pm : MP.Se.Pm (MP.Se.co P)
  len : P.length = (MP.Se.nf l).length
  pos : 0 < (MP.Se.co P) (P.length - 1)
  le : ∀ i, ((MP.Se.co P) i).natAbs ≤ ((MP.Se.co l) i).natAbs
/-- The greatest common divisor of two of which one at least is primitive. -/
structure Gk (G : List Int) (p q : Se) : Prop where
  nm : MP.Se.Nm G
  pm : MP.Se.Pm (MP.Se.co G)
  pos : 0 < (MP.Se.co G) (G.length - 1)
  gr : ∀ d, MP.Se.Fn d → MP.Se.Pm d → (MP.Se.Dv d (MP.Se.co G) ↔ MP.Se.Dv d p ∧ MP.Se.Dv d q)
/-- A step of the program, as numbers. -/
theorem pg_step {K M m0 n0 ε m n : Nat} {p q : Se} {P Q : List Int} {f s : Int} (I : In m0 n0 p q ε m n (MP.Se.co P) (MP.Se.co Q) f s) (hP : P.length = m + 1) (hn : 0 < n)
    (hp : ∀ i, (p i).natAbs ≤ M) (hq : ∀ i, (q i).natAbs ≤ M) (hM : 1 ≤ M) (hK : ((m0 + n0) * M) ^ (m0 + n0) ≤ K) (hs : s.natAbs ≤ K) :
    ∃ (r R : List Int) (u : Se) (s2 : Int), MP.Se.Nm r ∧ MP.Se.Nm R ∧ MP.Se.Bd u (m - n + 1) ∧ MP.Se.sm ((MP.Se.co Q) n ^ (m - n + 1)) (MP.Se.co P) = MP.Se.co Q * u + MP.Se.co r ∧ MP.Se.Bd (MP.Se.co r) n ∧ MP.Se.co r = MP.Se.sm (f * s ^ (m - n)) (MP.Se.co R) ∧ R = MP.Se.nf (r.map (· / (f * s ^ (m - n)))) ∧
      (∀ i, ((MP.Se.co R) i).natAbs ≤ K) ∧ s2.natAbs ≤ K ∧ s2 ≠ 0 ∧ (m = n ∧ s2 = s ∨ n < m ∧ ((MP.Se.co Q) n) ^ (m - n) = s ^ (m - n - 1) * s2) ∧
      (R ≠ [] → R.length - 1 < n ∧ In m0 n0 p q (ε + n * m) n (R.length - 1) (MP.Se.co Q) (MP.Se.co R) ((MP.Se.co Q) n) s2) := by
  have hle := I.le
  obtain ⟨u, r, hu, hr, hE⟩ := pseudoT I.dQ (m - n + 1) (p := MP.Se.co P) ((MP.Se.co_bd P).le (by omega))
  obtain ⟨σ, hσ⟩ := I.exact hn hu hr hE
  have hβ : f * s ^ (m - n) ≠ 0 := Int.mul_ne_zero I.fne (Int.pow_ne_zero I.sne)
  have hr' : MP.Se.co (MP.Se.nf (MP.Se.ls n r)) = r := by rw [MP.Se.co_nf, MP.Se.co_ls hr]
  obtain ⟨R, hR⟩ : ∃ R : Se, R = fun k => MD.sg σ * dd m0 n0 (n - 1) p q k := ⟨_, rfl⟩
  have hrR : r = MP.Se.sm (f * s ^ (m - n)) R := MP.Se.ext fun k => by rw [hR]; exact hσ k
  have hco : MP.Se.co (MP.Se.nf ((MP.Se.nf (MP.Se.ls n r)).map (· / (f * s ^ (m - n))))) = R := by
    rw [MP.Se.co_nf, MP.Se.co_map _ (by simp), hr', hrR]
    exact MP.Se.ext fun i => by rw [MP.Se.sm_at, Int.mul_ediv_cancel_left _ hβ]
  obtain ⟨s2, hs2, hs0, hsK⟩ : ∃ s2, (m = n ∧ s2 = s ∨ n < m ∧ ((MP.Se.co Q) n) ^ (m - n) = s ^ (m - n - 1) * s2) ∧ s2 ≠ 0 ∧ s2.natAbs ≤ K := by
    rcases Nat.eq_or_lt_of_le hle with h1 | h1
    · exact ⟨s, .inl ⟨h1.symm, rfl⟩, I.sne, hs⟩
    · obtain ⟨s2, σ2, h2, h3, h4⟩ := I.scale h1
      exact ⟨s2, .inr ⟨h1, h2⟩, h3, by rw [h4, sg_abs]; exact Nat.le_trans (dd_le2 hp hq hM _) hK⟩
  refine ⟨MP.Se.nf (MP.Se.ls n r), MP.Se.nf ((MP.Se.nf (MP.Se.ls n r)).map (· / (f * s ^ (m - n)))), u, s2, MP.Se.nm_nf _, MP.Se.nm_nf _, hu, by rw [hr']; exact hE, by rw [hr']; exact hr, by rw [hr', hco]; exact hrR, rfl, fun i => ?_, hsK, hs0, hs2, fun hR0 => ?_⟩
  · rw [hco, hR, sg_abs]; exact Nat.le_trans (dd_le2 hp hq hM _) hK
  · have hd := MP.Se.nm_dg (MP.Se.nm_nf _) hR0
    have hlt : (MP.Se.nf ((MP.Se.nf (MP.Se.ls n r)).map (· / (f * s ^ (m - n))))).length - 1 < n := by
      have h1 : MP.Se.Bd (MP.Se.co (MP.Se.nf ((MP.Se.nf (MP.Se.ls n r)).map (· / (f * s ^ (m - n)))))) n := by
        rw [hco]
        intro i hi
        have := hr i hi
        rw [hrR, MP.Se.sm_at] at this
        rcases Int.mul_eq_zero.1 this with h | h
        · exact absurd h hβ
        · exact h
      rcases Nat.lt_or_ge ((MP.Se.nf ((MP.Se.nf (MP.Se.ls n r)).map (· / (f * s ^ (m - n))))).length - 1) n with h2 | h2
      · exact h2
      · exact absurd (h1 _ h2) hd.1
    exact ⟨hlt, I.next hd hlt hu (by rw [hco, ← hrR]; exact hE) hs0 hs2⟩
end Go.Proofs.YtbpamkpclofnbaaGreat.MS
namespace Go.Proofs.YtbpamkpclofnbaaGreat.MS
set_option linter.unusedVariables false
set_option linter.unusedSimpArgs false
open MP (Se)
theorem Gk.swap {G : List Int} {p q : Se} (h : Gk G p q) : Gk G q p := ⟨h.nm, h.pm, h.pos, fun d hd hdm => (h.gr d hd hdm).trans ⟨fun h => ⟨h.2, h.1⟩, fun h => ⟨h.2, h.1⟩⟩⟩
theorem Gk.dv {G : List Int} {p q : Se} (h : Gk G p q) : MP.Se.Dv (MP.Se.co G) p ∧ MP.Se.Dv (MP.Se.co G) q := (h.gr _ (MP.Se.co_fn G) h.pm).1 (MP.Se.Dv.refl _)
/-- The numbers of the sequence of two polynomials are at most this. -/
def kK (D M : Nat) : Nat := (D * M) ^ D
end Go.Proofs.YtbpamkpclofnbaaGreat.MS
namespace Go.Proofs.YtbpamkpclofnbaaGreat.MS
set_option linter.unusedVariables false
set_option linter.unusedSimpArgs false
open MP (Se)
end Go.Proofs.YtbpamkpclofnbaaGreat.MS
namespace Go.Proofs.YtbpamkpclofnbaaGreat.MS
set_option linter.unusedVariables false
set_option linter.unusedSimpArgs false
open MD
open MP (Se)
def rsQ (S X : Int) (n : Nat) : Int := if n = 0 then S else X ^ n / S ^ (n - 1)
def od2 (P Q : List Int) : Bool := decide (P.length % 2 = 0 ∧ Q.length % 2 = 0)
/-- The steps of the program that finds the resultant: sizes are told by Sz. -/
def Rv (Sz : Int → Prop) : Nat → List Int → List Int → Int → Int → Bool → Int → Prop
  | 0, _, _, _, _, _, _ => False
  | N + 1, P, Q, f, s, ng, X => (Q = [] ∧ X = 0) ∨ (∃ c, Q = [c] ∧ s ≠ 0 ∧ 1 ≤ P.length ∧ X = if ng then -(rsQ s c (P.length - 1)) else rsQ s c (P.length - 1)) ∨
    ∃ (r Q2 : List Int) (u : MP.Se) (f2 s2 : Int) (d gap : Nat), (Q.length = d + 1 ∧ 1 ≤ d ∧ P.length = d + 1 + gap ∧ MP.Se.Nm r) ∧ (MP.Se.Fn u ∧ MP.Se.sm ((MP.Se.co Q) d ^ (gap + 1)) (MP.Se.co P) = MP.Se.co Q * u + MP.Se.co r ∧ MP.Se.Bd (MP.Se.co r) d) ∧
      (f * s ^ gap ≠ 0 ∧ MP.Se.co r = MP.Se.sm (f * s ^ gap) (MP.Se.co Q2) ∧ MP.Se.Nm Q2 ∧ f2 = (MP.Se.co Q) d) ∧ (s ≠ 0 ∧ s2 = rsQ s f2 gap) ∧
      ((∀ x ∈ Q2, Sz x) ∧ Sz f2 ∧ Sz s2) ∧ Rv Sz N Q Q2 f2 s2 (ng != od2 P Q) X
/-- A sign. -/
def bs (b : Bool) : Int := if b then -1 else 1
theorem bs_ne (a b : Bool) : bs (a != b) = bs a * bs b := by cases a <;> cases b <;> rfl
theorem bs_if (b : Bool) (x : Int) : (if b then -x else x) = bs b * x := by cases b <;> simp [bs]
theorem od2_sg {P Q : List Int} {m n : Nat} (hP : P.length = m + 1) (hQ : Q.length = n + 1) : bs (od2 P Q) = sg (n * m) := by
  unfold od2 bs sg
  rw [hP, hQ, Nat.mul_mod]
  rcases Nat.mod_two_eq_zero_or_one n with h | h <;> rcases Nat.mod_two_eq_zero_or_one m with h2 | h2 <;> simp [h, h2] <;> omega
/-- Without a rest the determinant is 0. -/
theorem dd_null {m n : Nat} {F G Q : Se} {e : Int} (hnm : n ≤ m) (hn : 0 < n) (he : e ≠ 0) (hQ : MP.Se.Bd Q (m - n + 1)) (h : MP.Se.sm e F = G * Q + MP.Se.c 0) (k : Nat) : dd m n 0 F G k = 0 := by
  have h1 := dd_rest (j := 0) (k := k) hnm hn hQ h
  have h2 : dm (m + n - 0 - 1) (m + n - 2 * 0) k (r2 (n - 0) (m - 0) (MP.Se.c 0) G) = 0 := by
    unfold dm
    obtain ⟨t, ht⟩ : ∃ t, m + n - 0 - 1 = t := ⟨_, rfl⟩
    rw [ht]
    obtain ⟨N, hN⟩ : ∃ N, m + n - 2 * 0 = N + 1 := ⟨m + n - 1, by omega⟩
    rw [hN]
    refine sm_nil fun c hc => ?_
    have e0 : ∀ q, r2 (n - 0) (m - 0) (MP.Se.c 0) G 0 q = 0 := fun q => by
      simp only [r2, if_pos (show 0 < n - 0 by omega), xp_at]
      split
      · rfl
      · cases q - (n - 0 - 1 - 0) <;> rfl
    have e1 : dM t (N + 1) k (r2 (n - 0) (m - 0) (MP.Se.c 0) G) 0 c = 0 := by
      unfold dM
      split
      · exact e0 _
      · exact e0 _
    rw [e1]; simp
  rw [h2] at h1
  rcases Int.mul_eq_zero.1 h1.symm with h3 | h3
  · exact absurd h3 (Int.pow_ne_zero he)
  · exact h3
theorem rv_chain {Sz : Int → Prop} {K M m0 n0 e0 : Nat} {p q : Se} (hp : ∀ i, (p i).natAbs ≤ M) (hq : ∀ i, (q i).natAbs ≤ M) (hM : 1 ≤ M) (hK : ((m0 + n0) * M) ^ (m0 + n0) ≤ K) (hS : ∀ x : Int, x.natAbs ≤ K → Sz x) :
    ∀ (n : Nat) {ε m : Nat} {P Q : List Int} {f s : Int} {ng : Bool}, In m0 n0 p q ε m n (MP.Se.co P) (MP.Se.co Q) f s → 0 < m → P.length = m + 1 → Q.length = n + 1 → MP.Se.Nm P → MP.Se.Nm Q → (∀ i, ((MP.Se.co Q) i).natAbs ≤ K) → s.natAbs ≤ K → bs ng = sg (ε + e0) →
      ∃ N, Rv Sz N P Q f s ng (sg e0 * dd m0 n0 0 p q 0) := by
  intro n
  induction n using Nat.strongRecOn with
  | ind n ih =>
    intro ε m P Q f s ng I hm hPl hQl hPn hQn hQK hsK hng
    have hle := I.le
    rcases Nat.eq_zero_or_pos n with h0 | hn
    · subst h0
      obtain ⟨c, rfl⟩ := List.length_eq_one_iff.1 hQl
      refine ⟨1, .inr (.inl ⟨c, rfl, I.sne, by omega, ?_⟩)⟩
      have h1 := I.last hm
      have h2 : (MP.Se.co [c]) 0 = c := rfl
      rw [h2] at h1
      rw [bs_if, hng, hPl, Nat.add_sub_cancel, rsQ, if_neg (by omega), h1, Int.mul_ediv_cancel_left _ (Int.pow_ne_zero I.sne), sg_add]
      have := sg_sq ε
      grind
    · obtain ⟨r, R, u, s2, hrn, hRn, hu, hE, hr, hrR, hRe, hRK, hs2K, hs20, hs2, hnext⟩ := pg_step I hPl hn hp hq hM hK hsK
      have hβ : f * s ^ (m - n) ≠ 0 := Int.mul_ne_zero I.fne (Int.pow_ne_zero I.sne)
      have hthird : ∀ N X, Rv Sz N Q R ((MP.Se.co Q) n) s2 (ng != od2 P Q) X → Rv Sz (N + 1) P Q f s ng X := fun N X h => by
        refine .inr (.inr ⟨r, R, u, (MP.Se.co Q) n, s2, n, m - n, ⟨hQl, hn, by omega, hrn⟩, ⟨⟨_, hu⟩, hE, hr⟩, ⟨hβ, hrR, hRn, rfl⟩, ⟨I.sne, ?_⟩, ⟨fun x hx => ?_, hS _ (hQK n), hS _ hs2K⟩, h⟩)
        · rcases hs2 with ⟨h1, h2⟩ | ⟨h1, h2⟩
          · rw [rsQ, if_pos (by omega)]; exact h2
          · rw [rsQ, if_neg (by omega), h2, Int.mul_ediv_cancel_left _ (Int.pow_ne_zero I.sne)]
        · obtain ⟨i, hi, rfl⟩ := List.getElem_of_mem hx
          rw [← MP.Se.co_at hi]; exact hS _ (hRK i)
      by_cases hR0 : R = []
      · subst hR0
        have hz : dd m0 n0 0 p q 0 = 0 := by
          have e1 : MP.Se.sm ((MP.Se.co Q) n ^ (m - n + 1)) (MP.Se.co P) = MP.Se.co Q * u + MP.Se.c 0 := by
            rw [hE, hrR]
            refine MP.Se.ext fun i => ?_
            simp only [MP.Se.add_at, MP.Se.sm_at, MP.Se.co_nil]
            have e9 : (MP.Se.c 0) i = 0 := by cases i <;> rfl
            rw [e9]; simp
          have h1 := dd_null hle hn (Int.pow_ne_zero I.dQ.1) hu e1 0
          rw [I.z hm 0] at h1
          rcases Int.mul_eq_zero.1 h1 with h | h
          · exact absurd h (sg_ne _)
          · rcases Int.mul_eq_zero.1 h with h | h
            · exact absurd h (Int.mul_ne_zero (Int.pow_ne_zero I.fne) (Int.pow_ne_zero I.sne))
            · exact h
        exact ⟨2, hthird 1 _ (.inl ⟨rfl, by rw [hz, Int.mul_zero]⟩)⟩
      · obtain ⟨hlt, I2⟩ := hnext hR0
        have hRl := List.length_pos_iff.2 hR0
        obtain ⟨N, h1⟩ := ih _ hlt I2 hn hQl (by omega) hQn hRn hRK hs2K (ng := ng != od2 P Q) (by rw [bs_ne, hng, od2_sg hPl hQl, ← sg_add]; congr 1; omega)
        exact ⟨N + 1, hthird N _ h1⟩
/-- The resultant of two, of which neither is 0. -/
def rsl (P Q : List Int) : Int := if P.length < Q.length then sg ((P.length - 1) * (Q.length - 1)) * dd (Q.length - 1) (P.length - 1) 0 (MP.Se.co Q) (MP.Se.co P) 0 else dd (P.length - 1) (Q.length - 1) 0 (MP.Se.co P) (MP.Se.co Q) 0
theorem rv_all {Sz : Int → Prop} {K M : Nat} {P Q : List Int} (hP : MP.Se.Nm P) (hQ : MP.Se.Nm Q) (hpM : ∀ i, ((MP.Se.co P) i).natAbs ≤ M) (hqM : ∀ i, ((MP.Se.co Q) i).natAbs ≤ M) (hM : 1 ≤ M) (hK : ((P.length + Q.length) * M) ^ (P.length + Q.length) ≤ K) (hS : ∀ x : Int, x.natAbs ≤ K → Sz x) (hP0 : P ≠ []) (hQ0 : Q ≠ []) :
    ∃ N, if P.length < Q.length then Rv Sz N Q P 1 1 (od2 Q P) (rsl P Q) else Rv Sz N P Q 1 1 false (rsl P Q) := by
  have hPl := List.length_pos_iff.2 hP0; have hQl := List.length_pos_iff.2 hQ0
  have hK2 : ∀ a b, a + b + 2 = P.length + Q.length → ((a + b) * M) ^ (a + b) ≤ K := fun a b h => by
    refine Nat.le_trans (Nat.le_trans (Nat.pow_le_pow_left (Nat.mul_le_mul_right M (show a + b ≤ P.length + Q.length by omega)) _) (Nat.pow_le_pow_right (Nat.mul_pos (by omega) hM) (show a + b ≤ P.length + Q.length by omega))) hK
  have hMK : M ≤ K := by
    refine Nat.le_trans ?_ hK
    have h1 : M ≤ (P.length + Q.length) * M := Nat.le_mul_of_pos_left _ (by omega)
    exact Nat.le_trans h1 (Nat.le_self_pow (by omega) _)
  have dP := MP.Se.nm_dg hP hP0; have dQ := MP.Se.nm_dg hQ hQ0
  unfold rsl
  by_cases hlt : P.length < Q.length
  · obtain ⟨N, h⟩ := rv_chain (e0 := (P.length - 1) * (Q.length - 1)) hqM hpM hM (hK2 _ _ (by omega)) hS _ (In.init dQ dP (by omega)) (by omega) (by omega) (by omega) hQ hP (fun i => Nat.le_trans (hpM i) hMK) (by simp; omega) (ng := od2 Q P) (by rw [od2_sg (m := Q.length - 1) (n := P.length - 1) (by omega) (by omega), Nat.zero_add])
    exact ⟨N, by rw [if_pos hlt, if_pos hlt]; exact h⟩
  · rcases Nat.eq_zero_or_pos (P.length - 1) with h0 | h0
    · refine ⟨1, ?_⟩
      rw [if_neg hlt, if_neg hlt]
      obtain ⟨c, rfl⟩ := List.length_eq_one_iff.1 (show Q.length = 1 by omega)
      refine .inr (.inl ⟨c, rfl, by decide, by omega, ?_⟩)
      rw [h0]; rfl
    · obtain ⟨N, h⟩ := rv_chain (e0 := 0) hpM hqM hM (hK2 _ _ (by omega)) hS _ (In.init dP dQ (by omega)) h0 (by omega) (by omega) hP hQ (fun i => Nat.le_trans (hqM i) hMK) (by simp; omega) (ng := false) rfl
      refine ⟨N, ?_⟩
      rw [if_neg hlt, if_neg hlt]
      rw [sg_0, Int.one_mul] at h
      exact h
end Go.Proofs.YtbpamkpclofnbaaGreat.MS
namespace Go.Proofs.YtbpamkpclofnbaaGreat
open Go.RowKit
open MP.Se (nf co)
set_option linter.unusedVariables false
set_option maxRecDepth 100000

theorem Pd.si {w : World} {B n c J : Nat} {A : Option Addr} {l : List Int} (h : Pd w B A n c l J) : ∀ x ∈ l, Si x J := fun x hx => by
  obtain ⟨k, hk, rfl⟩ := List.getElem_of_mem hx
  obtain ⟨d, o, _, _, hc⟩ := h.at_ (by have := h.len; omega)
  obtain ⟨b, A, n, c, _, _, z⟩ := hc k hk
  exact z.si
theorem si_co {l : List Int} {J : Nat} (h : ∀ x ∈ l, Si x J) (i : Nat) : ((co l) i).natAbs ≤ Wd ^ J := by
  by_cases hi : i < l.length
  · rw [MP.Se.co_at hi]; exact Nat.le_of_lt (h _ (List.getElem_mem hi))
  · rw [MP.Se.co_out (by omega)]; exact Nat.zero_le _
theorem kK_lt {J D B : Nat} (hD : D ≤ 1000) (hD1 : 1 ≤ D) (hB : (J + 1) * D ≤ B) : MS.kK D (Wd ^ J) < Wd ^ B := by
  have h1 : D * Wd ^ J < Wd ^ (J + 1) := by
    rw [Nat.pow_succ, Nat.mul_comm]
    exact Nat.mul_lt_mul_of_pos_left (by unfold Wd; omega) (Nat.pow_pos Wd0)
  unfold MS.kK
  refine Nat.lt_of_lt_of_le (Nat.pow_lt_pow_left h1 (by omega)) ?_
  rw [← Nat.pow_mul]
  exact Nat.pow_le_pow_right Wd0 hB
theorem dv_zero {p : MP.Se} (h : MP.Se.Dv (MP.Se.c 0) p) : p = MP.Se.c 0 := by
  obtain ⟨t, _, e⟩ := h
  rw [e, MP.Se.zero_mul]
/-- What Gcd hands back. -/
structure Gd (L l l2 : List Int) : Prop where
  gc : MP.Se.Gc (co L) (co l) (co l2)
  nm : MP.Se.Nm L
  pos : L ≠ [] → 0 < (co L) (L.length - 1)
theorem Gd.nil {L l l2 : List Int} (h : Gd L l l2) (e : L = []) : co l = MP.Se.c 0 ∧ co l2 = MP.Se.c 0 := by
  have h1 := h.gc.left; have h2 := h.gc.right
  rw [e, MP.Se.co_nil] at h1 h2
  exact ⟨dv_zero h1, dv_zero h2⟩
theorem gc_zz {g : MP.Se} (h : MP.Se.Gc g (MP.Se.c 0) (MP.Se.c 0)) : g = MP.Se.c 0 := dv_zero (h.gr _ (MP.Se.Fn.c 0) (MP.Se.Dv.refl _) (MP.Se.Dv.refl _))
theorem nm_zero {L : List Int} (h : MP.Se.Nm L) (e : co L = MP.Se.c 0) : L = [] := by rw [← MP.Se.nf_id h]; exact MP.Se.nf_nil_iff.2 e
theorem Gd.eq {L M l l2 : List Int} (h : Gd L l l2) (hg : MP.Se.Gc (co M) (co l) (co l2)) (hm : MP.Se.Nm M) (hp : M ≠ [] → 0 < (co M) (M.length - 1)) : L = M := by
  by_cases hL : L = []
  · obtain ⟨e1, e2⟩ := h.nil hL
    rw [e1, e2] at hg
    rw [hL, nm_zero hm (gc_zz hg)]
  · by_cases hM : M = []
    · have h1 := hg.left; have h2 := hg.right
      rw [hM, MP.Se.co_nil] at h1 h2
      have h3 := h.gc
      rw [dv_zero h1, dv_zero h2] at h3
      rw [hM, nm_zero h.nm (gc_zz h3)]
    · exact MP.Se.nm_ext h.nm hm (hg.same h.gc (MP.Se.nm_dg hm hM) (hp hM) (MP.Se.nm_dg h.nm hL) (h.pos hL)).1
theorem Gd.one {L l l2 : List Int} (h : Gd L l l2) (hg : MP.Se.Gc (MP.Se.c 1) (co l) (co l2)) : L = [1] :=
  h.eq (M := [1]) (by rw [show co [1] = MP.Se.c 1 from MP.Se.ext fun i => by cases i <;> simp [co, MP.Se.c]]; exact hg) (by simp [MP.Se.Nm]) fun _ => by simp [co]
theorem Gd.ne {L l l2 : List Int} (h : Gd L l l2) (h0 : co l ≠ MP.Se.c 0) : L ≠ [] := fun e => h0 (h.nil e).1
theorem Gd.len {L l l2 : List Int} {N : Nat} (h : Gd L l l2) (h0 : co l ≠ MP.Se.c 0) (hb : MP.Se.Bd (co l) N) : L.length ≤ N := by
  have hL := h.ne h0
  obtain ⟨n, hn, hlt⟩ := hb.dg h0
  have := h.gc.left.le (MP.Se.nm_dg h.nm hL) hn
  omega
theorem gc_neg {g p q : MP.Se} (h : MP.Se.Gc g p q) : MP.Se.Gc (-g) p q := ⟨h.fn.neg, h.left.neg_left, h.right.neg_left, fun x a b c => (h.gr x a b c).neg⟩
theorem Gd.times {L l l2 L2 l3 l4 M : List Int} {s t : MP.Se} (h : Gd L l l2) (h2 : Gd L2 l3 l4) (e3 : co l3 = co l * s) (e4 : co l4 = co l2 * s) (hm : MP.Se.Nm M) (eM : co M = co L * t) (ht : t = s ∨ t = -s) (hs : MP.Se.Fn s) (hp : s = MP.Se.c 0 ∨ ∃ n, MP.Se.Dg t n ∧ 0 < t n) : L2 = M := by
  refine h2.eq ?_ hm fun hM => ?_
  · rw [e3, e4, eM]
    by_cases h0 : s = MP.Se.c 0
    · have ht0 : t = MP.Se.c 0 := by
        rcases ht with e | e
        · rw [e, h0]
        · rw [e, h0]; exact MP.Se.ext fun i => by cases i <;> rfl
      rw [h0, ht0, MP.Se.mul_zero, MP.Se.mul_zero, MP.Se.mul_zero]
      exact ⟨MP.Se.Fn.c 0, MP.Se.Dv.zero, MP.Se.Dv.zero, fun _ _ h _ => h⟩
    · have h3 := h.gc.mul (MP.Se.co_fn l) (MP.Se.co_fn l2) hs h0
      rcases ht with e | e
      · rw [e]; exact h3
      · rw [e, MP.Se.mul_neg]; exact gc_neg h3
  · have hL : L ≠ [] := fun e => hM (nm_zero hm (by rw [eM, e, MP.Se.co_nil, MP.Se.zero_mul]))
    rcases hp with h0 | ⟨n, hn, hpos⟩
    · exfalso
      have ht0 : t = MP.Se.c 0 := by
        rcases ht with e | e
        · rw [e, h0]
        · rw [e, h0]; exact MP.Se.ext fun i => by cases i <;> rfl
      exact hM (nm_zero hm (by rw [eM, ht0, MP.Se.mul_zero]))
    · have dL := MP.Se.nm_dg h.nm hL
      have d := dL.mul hn
      rw [← eM] at d
      rw [(MP.Se.nm_dg hm hM).uniq d, eM, (MP.Se.mul_bd dL.2 hn.2).2]
      exact Int.mul_pos (h.pos hL) hpos
/-- What two lists have in common taken away, nothing is left in common. -/
theorem Gd.rest {L l l2 a b M : List Int} (h : Gd L l l2) (h0 : L ≠ []) (ea : co l = co L * co a) (eb : co l2 = co L * co b) (h2 : Gd M a b) : M = [1] := by
  refine h2.one ?_
  have h3 := h.gc
  rw [ea, eb, MP.Se.mul_comm, MP.Se.mul_comm (co L) (co b)] at h3
  exact h3.left_one (MP.Se.co_fn a) (MP.Se.co_fn b) fun e => h0 (nm_zero h.nm e)
end Go.Proofs.YtbpamkpclofnbaaGreat
namespace Go.Proofs.YtbpamkpclofnbaaGreat
open Go.RowKit
open MP.Se (nf co)
set_option linter.unusedVariables false
set_option maxRecDepth 100000

theorem rvR_of {B : Nat} : ∀ {N : Nat} {P Q : List Int} {f s X : Int} {ng : Bool}, MS.Rv (fun x => Si x B) N P Q f s ng X → RvR B N P Q f s ng X
  | 0, _, _, _, _, _, _, h => h
  | N + 1, P, Q, f, s, X, ng, h => by
    rcases h with h | h | ⟨r, Q2, u, f2, s2, d, gap, h1, h2, h3, h4, h5, h6⟩
    · exact .inl h
    · exact .inr (.inl h)
    · exact .inr (.inr ⟨r, Q2, u, f2, s2, d, gap, h1, h2, h3, h4, h5, rvR_of h6⟩)
/-- The resultant of two lists of coefficients. -/
def rslZ (l l2 : List Int) : Int := if nf l = [] ∨ nf l2 = [] then 0 else MS.rsl (nf l) (nf l2)
theorem rsl_tr {l l2 : List Int} {J D B : Nat} (h : ∀ x ∈ l, Si x J) (h2 : ∀ x ∈ l2, Si x J) (hD : l.length + l2.length ≤ D) (hD1 : 1 ≤ D) (hD2 : D ≤ 1000) (hB : (J + 1) * D ≤ B) :
    ∃ N, if (nf l).length < (nf l2).length then RvR B N (nf l2) (nf l) 1 1 (bo2 (nf l2) (nf l)) (rslZ l l2) else RvR B N (nf l) (nf l2) 1 1 false (rslZ l l2) := by
  have hl1 := MP.Se.nf_len l; have hl2 := MP.Se.nf_len l2
  unfold rslZ
  by_cases h0 : nf l = [] ∨ nf l2 = []
  · rw [if_pos h0]
    refine ⟨1, ?_⟩
    rcases h0 with e | e
    · by_cases h3 : (nf l).length < (nf l2).length
      · rw [if_pos h3]; exact .inl ⟨e, rfl⟩
      · rw [if_neg h3]
        have : nf l2 = [] := List.eq_nil_of_length_eq_zero (by rw [e] at h3; have h4 : ¬ 0 < (nf l2).length := h3; omega)
        exact .inl ⟨this, rfl⟩
    · rw [if_neg (by rw [e]; simp)]; exact .inl ⟨e, rfl⟩
  · rw [if_neg h0]
    have hP0 : nf l ≠ [] := fun e => h0 (.inl e)
    have hQ0 : nf l2 ≠ [] := fun e => h0 (.inr e)
    have c1 : ∀ i, ((co (nf l)) i).natAbs ≤ Wd ^ J := fun i => by rw [MP.Se.co_nf]; exact si_co h i
    have c2 : ∀ i, ((co (nf l2)) i).natAbs ≤ Wd ^ J := fun i => by rw [MP.Se.co_nf]; exact si_co h2 i
    have hk := kK_lt (J := J) (B := B) hD2 hD1 hB
    obtain ⟨N, hN⟩ := MS.rv_all (Sz := fun x => Si x B) (K := (D * Wd ^ J) ^ D) (MP.Se.nm_nf l) (MP.Se.nm_nf l2) c1 c2 (Nat.pow_pos Wd0)
      (Nat.le_trans (Nat.pow_le_pow_left (Nat.mul_le_mul_right _ (show (nf l).length + (nf l2).length ≤ D by omega)) _) (Nat.pow_le_pow_right (Nat.mul_pos (show 0 < D by omega) (Nat.pow_pos Wd0)) (show (nf l).length + (nf l2).length ≤ D by omega)))
      (fun x hx => Nat.lt_of_le_of_lt hx (by unfold MS.kK at hk; exact hk)) hP0 hQ0
    refine ⟨N, ?_⟩
    by_cases h3 : (nf l).length < (nf l2).length
    · rw [if_pos h3] at hN ⊢; exact rvR_of hN
    · rw [if_neg h3] at hN ⊢; exact rvR_of hN
/-- Resultant. -/
theorem MResultant_is {A A2 : Option Addr} {n c n2 c2 J D B : Nat} {l l2 : List Int} {w : World} (h : Pd w w.heap.size A n c l J) (h2 : Pd w w.heap.size A2 n2 c2 l2 J) (hD : n + n2 ≤ D) (hD1 : 1 ≤ D) (hD2 : D ≤ 30) (hB : (J + 1) * D ≤ B) (hB2 : B ≤ 200) :
    Calls Tryz.prog 47 #[.slice A n c, .slice A2 n2 c2] w (OutZ w (rslZ l l2) (30 * (B + 2) + 1)) := by
  have hl := h.len; have hl2 := h2.len
  have hJ : J + 1 ≤ B := Nat.le_trans (Nat.le_mul_of_pos_right _ hD1) hB
  obtain ⟨N, hN⟩ := rsl_tr (D := D) h.si h2.si (by omega) hD1 (by omega) hB
  exact MResultant_any (h.kto (by omega)) (h2.kto (by omega)) (by omega) (by omega) hB2 (by omega) hN
end Go.Proofs.YtbpamkpclofnbaaGreat
