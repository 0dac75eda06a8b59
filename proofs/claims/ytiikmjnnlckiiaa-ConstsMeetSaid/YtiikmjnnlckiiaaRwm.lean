/-
  rows: sums of terms rounded down and up, what lies between them; sine and cosine on the circle.
-/
import Derived.Test.YtiikmjnnlckiiaaPa
namespace Go.Proofs.Ytiikmjnnlckiiaa
set_option linter.unusedVariables false

/-- The sum of the first n terms. -/
def sumI (f : Nat → Int) : Nat → Int
  | 0 => 0
  | n + 1 => sumI f n + f n
/-- The sum of the first n terms with changing signs: e at even places, o taken away at odd ones. -/
def altI (e o : Nat → Int) : Nat → Int
  | 0 => 0
  | n + 1 => altI e o n + (if n % 2 = 0 then e n else -o n)
/-- Terms rounded down: x, then each the one before times m, divided by its divisor. -/
def dnS (x m : Int) (D : Nat → Int) : Nat → Int
  | 0 => x
  | k + 1 => dnS x m D k * m / D k
/-- Likewise, rounded up. -/
def upS (x m : Int) (D : Nat → Int) : Nat → Int
  | 0 => x
  | k + 1 => -(-(upS x m D k * m) / D k)
theorem le_dv {a b c : Int} (hc : 0 < c) : a ≤ b / c ↔ a * c ≤ b := Int.le_ediv_iff_mul_le hc
theorem up_le {a b c : Int} (hc : 0 < c) : -(-b / c) ≤ a ↔ b ≤ a * c := by
  have h := le_dv (a := -a) (b := -b) hc
  rw [Int.neg_mul] at h
  constructor
  · intro h1; have := h.1 (by omega); omega
  · intro h1; have := h.2 (by omega); omega
theorem dv_mul_le (b : Int) {c : Int} (hc : 0 < c) : b / c * c ≤ b := (le_dv hc).1 (Int.le_refl _)
theorem le_up_mul (b : Int) {c : Int} (hc : 0 < c) : b ≤ -(-b / c) * c := (up_le hc).1 (Int.le_refl _)
section
variable {x m : Int} {D : Nat → Int}
theorem dnS_nonneg (hx : 0 ≤ x) (hm : 0 ≤ m) (hD : ∀ k, 0 < D k) : ∀ k, 0 ≤ dnS x m D k
  | 0 => hx
  | k + 1 => Int.ediv_nonneg (Int.mul_nonneg (dnS_nonneg hx hm hD k) hm) (Int.le_of_lt (hD k))
theorem dn_le_up (hx : 0 ≤ x) (hm : 0 ≤ m) (hD : ∀ k, 0 < D k) : ∀ k, dnS x m D k ≤ upS x m D k
  | 0 => Int.le_refl _
  | k + 1 => by
    have h1 := dn_le_up hx hm hD k
    have h2 : dnS x m D k * m ≤ upS x m D k * m := Int.mul_le_mul_of_nonneg_right h1 hm
    have h3 := dv_mul_le (dnS x m D k * m) (hD k)
    have h4 := le_up_mul (upS x m D k * m) (hD k)
    exact Int.le_of_mul_le_mul_right (by simp only [dnS, upS]; omega) (hD k)
theorem upS_nonneg (hx : 0 ≤ x) (hm : 0 ≤ m) (hD : ∀ k, 0 < D k) (k : Nat) : 0 ≤ upS x m D k := Int.le_trans (dnS_nonneg hx hm hD k) (dn_le_up hx hm hD k)
/-- Each is at most the one before it, divided by j, if j m is at most the divisor. -/
theorem dnS_step (hx : 0 ≤ x) (hm : 0 ≤ m) (hD : ∀ k, 0 < D k) {j : Int} (hj : 0 ≤ j) (hd : ∀ k, j * m ≤ D k) (k : Nat) : j * dnS x m D (k + 1) ≤ dnS x m D k := by
  have h0 := dnS_nonneg hx hm hD k
  have h1 := dv_mul_le (dnS x m D k * m) (hD k)
  have h2 := Int.mul_le_mul_of_nonneg_left h1 hj
  have h3 := Int.mul_le_mul_of_nonneg_left (hd k) h0
  refine Int.le_of_mul_le_mul_right ?_ (hD k)
  simp only [dnS]
  grind
/-- The same, begun with p times as much: finer. -/
theorem dnS_finer (hx : 0 ≤ x) (hm : 0 ≤ m) (hD : ∀ k, 0 < D k) {p : Int} (hp : 0 ≤ p) : ∀ k, dnS x m D k * p ≤ dnS (x * p) m D k
  | 0 => Int.le_refl _
  | k + 1 => by
    have h1 := dnS_finer hx hm hD hp k
    simp only [dnS]
    rw [le_dv (hD k)]
    have h2 := dv_mul_le (dnS x m D k * m) (hD k)
    have h3 := Int.mul_le_mul_of_nonneg_left h2 hp
    have h4 := Int.mul_le_mul_of_nonneg_right h1 hm
    grind
theorem upS_finer (hx : 0 ≤ x) (hm : 0 ≤ m) (hD : ∀ k, 0 < D k) {p : Int} (hp : 0 ≤ p) : ∀ k, upS (x * p) m D k ≤ upS x m D k * p
  | 0 => Int.le_refl _
  | k + 1 => by
    have h1 := upS_finer hx hm hD hp k
    simp only [upS]
    rw [up_le (hD k)]
    have h2 := le_up_mul (upS x m D k * m) (hD k)
    have h3 := Int.mul_le_mul_of_nonneg_left h2 hp
    have h4 := Int.mul_le_mul_of_nonneg_right h1 hm
    grind
/-- Multiplier and divisors times the same: the same terms. -/
theorem dnS_same {p : Int} (hp : 0 < p) : ∀ k, dnS x (m * p) (fun k => D k * p) k = dnS x m D k
  | 0 => rfl
  | k + 1 => by
    simp only [dnS]
    rw [dnS_same hp k, ← Int.mul_assoc, Int.mul_ediv_mul_of_pos_left _ _ hp]
theorem upS_same {p : Int} (hp : 0 < p) : ∀ k, upS x (m * p) (fun k => D k * p) k = upS x m D k
  | 0 => rfl
  | k + 1 => by
    simp only [upS]
    rw [upS_same hp k, ← Int.mul_assoc, ← Int.neg_mul, Int.mul_ediv_mul_of_pos_left _ _ hp]
end
section
variable {f g : Nat → Int}
theorem sum_le (h : ∀ k, f k ≤ g k) : ∀ n, sumI f n ≤ sumI g n
  | 0 => Int.le_refl _
  | n + 1 => Int.add_le_add (sum_le h n) (h n)
theorem sum_mono (h : ∀ k, 0 ≤ f k) {n m : Nat} (hnm : n ≤ m) : sumI f n ≤ sumI f m := by
  induction hnm with
  | refl => exact Int.le_refl _
  | step _ ih => have := h; simp only [sumI]; have := h ‹Nat›; omega
theorem sum_mul (p : Int) : ∀ n, sumI (fun k => f k * p) n = sumI f n * p
  | 0 => by simp [sumI]
  | n + 1 => by simp only [sumI]; rw [sum_mul p n, Int.add_mul]
/-- What is left of a sum whose terms are halved is at most twice its first one. -/
theorem sum_tail (h0 : ∀ k, 0 ≤ f k) (h : ∀ k, 2 * f (k + 1) ≤ f k) (n : Nat) : ∀ d, sumI f (n + d) + 2 * f (n + d) ≤ sumI f n + 2 * f n
  | 0 => Int.le_refl _
  | d + 1 => by
    have h1 := sum_tail h0 h n d
    have h2 := h (n + d)
    have e : sumI f (n + d + 1) = sumI f (n + d) + f (n + d) := rfl
    rw [← Nat.add_assoc, e]
    omega
/-- A sum of what is less, whatever its terms, is at most one of what is more with twice the next one. -/
theorem sum_meet (h0 : ∀ k, 0 ≤ f k) (hfg : ∀ k, f k ≤ g k) (h : ∀ k, 2 * f (k + 1) ≤ f k) (n m : Nat) : sumI f n ≤ sumI g m + 2 * g m := by
  have hg := sum_le hfg m
  have h1 := hfg m
  have h2 := h0 m
  rcases Nat.le_total n m with hnm | hnm
  · have := sum_mono h0 hnm; omega
  · obtain ⟨d, rfl⟩ := Nat.exists_eq_add_of_le hnm
    have := sum_tail h0 h m d
    have := h0 (m + d)
    omega
theorem alt_le {f' g' : Nat → Int} (h : ∀ k, f k ≤ f' k) (h2 : ∀ k, g' k ≤ g k) : ∀ n, altI f g n ≤ altI f' g' n
  | 0 => Int.le_refl _
  | n + 1 => by
    have := alt_le h h2 n
    have := h n; have := h2 n
    simp only [altI]
    split <;> omega
theorem alt_mul (p : Int) : ∀ n, altI (fun k => f k * p) (fun k => g k * p) n = altI f g n * p
  | 0 => by simp [altI]
  | n + 1 => by
    simp only [altI]
    rw [alt_mul p n, Int.add_mul]
    split
    · rfl
    · rw [Int.neg_mul]
/-- Of falling terms: an even sum is at most an odd one, whichever. -/
theorem alt_two (n : Nat) : altI f f (2 * (n + 1)) = altI f f (2 * n) + f (2 * n) - f (2 * n + 1) := by
  have e : 2 * (n + 1) = 2 * n + 1 + 1 := by omega
  rw [e]
  simp only [altI]
  rw [if_pos (by omega), if_neg (by omega)]
  omega
theorem alt_odd (n : Nat) : altI f f (2 * n + 1) = altI f f (2 * n) + f (2 * n) := by
  simp only [altI]
  rw [if_pos (by omega)]
theorem alt_up (h : ∀ k, f (k + 1) ≤ f k) (n : Nat) : ∀ d, altI f f (2 * n) ≤ altI f f (2 * (n + d))
  | 0 => Int.le_refl _
  | d + 1 => by
    have h1 := alt_up h n d
    have h2 := h (2 * (n + d))
    have := alt_two (f := f) (n + d)
    rw [show n + (d + 1) = n + d + 1 by omega, this]
    omega
theorem alt_down (h : ∀ k, f (k + 1) ≤ f k) (n : Nat) : ∀ d, altI f f (2 * (n + d) + 1) ≤ altI f f (2 * n + 1)
  | 0 => Int.le_refl _
  | d + 1 => by
    have h1 := alt_down h n d
    have h2 := h (2 * (n + d) + 1)
    have h3 := alt_two (f := f) (n + d)
    have h4 := alt_odd (f := f) (n + d)
    have h5 := alt_odd (f := f) (n + (d + 1))
    rw [show n + (d + 1) = n + d + 1 by omega] at h5 ⊢
    rw [h5, h3]
    rw [h4] at h1
    have e : 2 * (n + d + 1) = 2 * (n + d) + 1 + 1 := by omega
    rw [e]
    omega
theorem alt_meet0 (h0 : ∀ k, 0 ≤ f k) (h : ∀ k, f (k + 1) ≤ f k) (n m : Nat) : altI f f (2 * n) ≤ altI f f (2 * m + 1) := by
  rcases Nat.le_total n m with hnm | hnm
  · obtain ⟨d, rfl⟩ := Nat.exists_eq_add_of_le hnm
    have h1 := alt_up h n d
    have h2 := alt_odd (f := f) (n + d)
    have h3 := h0 (2 * (n + d))
    omega
  · obtain ⟨d, rfl⟩ := Nat.exists_eq_add_of_le hnm
    have h1 := alt_down h m d
    have h2 := alt_odd (f := f) (m + d)
    have h3 := h0 (2 * (m + d))
    omega
theorem alt_meet (h0 : ∀ k, 0 ≤ f k) (h : ∀ k, f (k + 1) ≤ f k) (hfg : ∀ k, f k ≤ g k) (n m : Nat) : altI f g (2 * n) ≤ altI g f (2 * m + 1) :=
  Int.le_trans (alt_le (fun _ => Int.le_refl _) hfg _) (Int.le_trans (alt_meet0 h0 h n m) (alt_le hfg (fun _ => Int.le_refl _) _))
end

/-- A cosine's terms; a sine's. -/
def ecQ (x : Rat) : Nat → Rat
  | 0 => 1
  | k + 1 => ecQ x k * (x * x) / (2 * k + 1) / (2 * k + 2)
def esQ (x : Rat) (k : Nat) : Rat := ecQ x k * x / (2 * k + 1)
def sgQ (k : Nat) : Rat := if k % 2 = 0 then 1 else -1
theorem sg_succ (k : Nat) : sgQ (k + 1) = -sgQ k := by
  unfold sgQ
  rcases (show k % 2 = 0 ∨ k % 2 = 1 by omega) with h | h
  · rw [if_neg (by omega), if_pos h]
  · rw [if_pos (by omega), if_neg (by omega)]; rfl
theorem sg_sq (k : Nat) : sgQ k * sgQ k = 1 := by
  unfold sgQ
  split <;> grind
/-- Sums with changing signs. -/
def asQ (f : Nat → Rat) : Nat → Rat
  | 0 => 0
  | k + 1 => asQ f k + sgQ k * f k
theorem c0Q (n : Nat) : (0 : Rat) ≤ n := by exact_mod_cast Nat.zero_le n
theorem inv3 {p r u n k : Rat} (hp : p * (2 * n + 1) = 1) (hr : r * (n + 1 + k) = 1) (hu : u * (2 * k + 1) = 1) : p * r + u * r = 2 * (u * p) := by
  have h1 : p * r = p * r * (u * (2 * k + 1)) := by rw [hu]; grind
  have h2 : u * r = u * r * (p * (2 * n + 1)) := by rw [hp]; grind
  have h3 : 2 * (u * p) = 2 * (u * p) * (r * (n + 1 + k)) := by rw [hr]; grind
  rw [h1, h2, h3]
  grind
theorem dv_inv {a b : Rat} : a / b = a * b⁻¹ := Rat.div_def a b
theorem inv_one {a : Rat} (h : a ≠ 0) : a⁻¹ * a = 1 := Rat.inv_mul_cancel a h
theorem tele_alg (x n k e A B S C s : Rat) (hn : 0 < n) (hk : 0 ≤ k)
    (ih : x * x / (2 * n + 1) / (2 * n + 2) * A + B = x * S / (2 * n + 1) + C + s * e * (k / (n + k))) :
    x * x / (2 * n + 1) / (2 * n + 2) * (A + s * (e * ((n + 1) / (n + 1 + k)))) + (B + s * (e * (n / (n + k))))
      = x * (S + s * (e * x / (2 * k + 1))) / (2 * n + 1) + (C + s * e) + -s * (e * (x * x) / (2 * k + 1) / (2 * k + 2)) * ((k + 1) / (n + (k + 1))) := by
  have h1 := inv_one (show 2 * n + 1 ≠ 0 by grind)
  have h2 := inv_one (show 2 * n + 2 ≠ 0 by grind)
  have h3 := inv_one (show n + k ≠ 0 by grind)
  have h4 := inv_one (show n + 1 + k ≠ 0 by grind)
  have h5 := inv_one (show 2 * k + 1 ≠ 0 by grind)
  have h6 := inv_one (show 2 * k + 2 ≠ 0 by grind)
  rw [show n + (k + 1) = n + 1 + k by grind]
  simp only [dv_inv] at ih ⊢
  generalize (2 * n + 1)⁻¹ = p at *
  generalize (2 * n + 2)⁻¹ = p2 at *
  generalize (n + k)⁻¹ = r0 at *
  generalize (n + 1 + k)⁻¹ = r at *
  generalize (2 * k + 1)⁻¹ = u at *
  generalize (2 * k + 2)⁻¹ = u2 at *
  have h7 := inv3 h1 h4 h5
  have e1 : p2 * (n + 1) = 1 / 2 := by grind
  have e2 : u2 * (k + 1) = 1 / 2 := by grind
  have e3 : n * r0 + k * r0 = 1 := by grind
  have a1 : x * x * p * p2 * (s * (e * ((n + 1) * r))) = x * x * s * e * (p * r) * (p2 * (n + 1)) := by grind
  have a2 : -s * (e * (x * x) * u * u2) * ((k + 1) * r) = -(x * x * s * e * (u * r)) * (u2 * (k + 1)) := by grind
  have a3 : s * (e * (n * r0)) + s * e * (k * r0) = s * e * (n * r0 + k * r0) := by grind
  rw [e1] at a1
  rw [e2] at a2
  rw [e3] at a3
  have a4 : x * (S + s * (e * x * u)) * p = x * S * p + x * x * s * e * (u * p) := by grind
  have a5 : x * x * s * e * (p * r) + x * x * s * e * (u * r) = 2 * (x * x * s * e * (u * p)) := by
    rw [← Rat.mul_add, h7]; grind
  have a6 : x * x * p * p2 * (A + s * (e * ((n + 1) * r))) = x * x * p * p2 * A + x * x * p * p2 * (s * (e * ((n + 1) * r))) := by grind
  rw [a6, a1, a2, a4]
  grind
theorem tele (x : Rat) (N : Nat) (hN : 0 < N) (K : Nat) :
    x * x / (2 * N + 1) / (2 * N + 2) * asQ (fun k => ecQ x k * ((N + 1) / (N + 1 + k))) K + asQ (fun k => ecQ x k * (N / (N + k))) K
      = x * asQ (esQ x) K / (2 * N + 1) + asQ (ecQ x) K + sgQ K * ecQ x K * (K / (N + K)) := by
  have hN' : (0 : Rat) < N := by exact_mod_cast hN
  induction K with
  | zero => simp only [asQ]; grind
  | succ K ih =>
    have := tele_alg x N K (ecQ x K) _ _ _ _ (sgQ K) hN' (c0Q K) ih
    simp only [asQ, sg_succ, esQ, ecQ, Rat.natCast_add, Rat.natCast_ofNat]
    exact this
theorem sq_alg (x n e A V S C s : Rat) (hn : 0 < n) (hs : s * s = 1)
    (ih : S * S + C * C = 1 - 2 * s * e * V) (ht : x * x / (2 * n + 1) / (2 * n + 2) * A + V = x * S / (2 * n + 1) + C + s * e * (n / (n + n))) :
    (S + s * (e * x / (2 * n + 1))) * (S + s * (e * x / (2 * n + 1))) + (C + s * e) * (C + s * e)
      = 1 - 2 * -s * (e * (x * x) / (2 * n + 1) / (2 * n + 2)) * (A + s * (e * ((n + 1) / (n + 1 + n)))) := by
  have h1 := inv_one (show 2 * n + 1 ≠ 0 by grind)
  have h2 := inv_one (show 2 * n + 2 ≠ 0 by grind)
  have h3 : n / (n + n) = 1 / 2 := by grind
  rw [show n + 1 + n = 2 * n + 1 by grind]
  rw [h3] at ht
  simp only [dv_inv] at ht ⊢
  generalize (2 * n + 1)⁻¹ = p at *
  generalize (2 * n + 2)⁻¹ = p2 at *
  have e1 : p2 * (n + 1) = 1 / 2 := by grind
  have g1 : 2 * s * e * (x * x * p * p2 * A + V) = 2 * s * e * (x * S * p + C + s * e * (1 / 2)) := by
    have : s * e * (1 * 2⁻¹) = s * e * (1 / 2) := by grind
    rw [ht, this]
  have g2 : 2 * -s * (e * (x * x) * p * p2) * (A + s * (e * ((n + 1) * p))) = -(2 * s * e * (x * x * p * p2 * A)) - 2 * (s * s) * (e * e) * (x * x) * (p * p) * (p2 * (n + 1)) := by grind
  rw [g2, e1, hs]
  have g3 : (S + s * (e * x * p)) * (S + s * (e * x * p)) + (C + s * e) * (C + s * e) = S * S + C * C + 2 * s * e * (x * S * p + C) + (s * s) * (e * e) * (x * x) * (p * p) + (s * s) * (e * e) := by grind
  have g4 : 2 * s * e * (x * S * p + C + s * e * (1 / 2)) = 2 * s * e * (x * S * p + C) + (s * s) * (e * e) := by grind
  rw [g3, ih, hs]
  rw [hs] at g4
  grind
/-- What is left of the squares. -/
def vQ (x : Rat) (N : Nat) : Rat := asQ (fun k => ecQ x k * (N / (N + k))) N
theorem sq_id (x : Rat) (M : Nat) : asQ (esQ x) (M + 1) * asQ (esQ x) (M + 1) + asQ (ecQ x) (M + 1) * asQ (ecQ x) (M + 1) = 1 - 2 * sgQ (M + 1) * ecQ x (M + 1) * vQ x (M + 1) := by
  induction M with
  | zero =>
    have h1 : sgQ 0 = 1 := rfl
    have h2 : sgQ 1 = -1 := rfl
    simp only [vQ, asQ, esQ, ecQ, h1, h2]
    grind
  | succ M ih =>
    have hN : (0 : Rat) < ((M + 1 : Nat) : Rat) := by exact_mod_cast Nat.succ_pos M
    have ht := tele x (M + 1) (Nat.succ_pos M) (M + 1)
    generalize M + 1 = N at *
    have := sq_alg x N (ecQ x N) (asQ (fun k => ecQ x k * ((N + 1) / (N + 1 + k))) N) (vQ x N) (asQ (esQ x) N) (asQ (ecQ x) N) (sgQ N) hN (sg_sq N) ih ht
    simp only [vQ, asQ, sg_succ, esQ, ecQ, Rat.natCast_add, Rat.natCast_ofNat] at this ⊢
    exact this
theorem inv_pos {b : Rat} (hb : 0 < b) : 0 ≤ b⁻¹ := Rat.le_of_lt (Rat.inv_pos.2 hb)
theorem dv_le {a b c : Rat} (hb : 0 < b) (h : a ≤ c * b) : a / b ≤ c := by
  have h1 := inv_one (show b ≠ 0 by grind)
  have h2 : (0 : Rat) ≤ b⁻¹ := inv_pos hb
  have h3 := Rat.mul_le_mul_of_nonneg_right h h2
  rw [dv_inv]
  have h4 : c * b * b⁻¹ = c := by grind
  grind
theorem le_dvQ {a b c : Rat} (hb : 0 < b) (h : c * b ≤ a) : c ≤ a / b := by
  have h1 := inv_one (show b ≠ 0 by grind)
  have h2 : (0 : Rat) ≤ b⁻¹ := inv_pos hb
  have h3 := Rat.mul_le_mul_of_nonneg_right h h2
  rw [dv_inv]
  have h4 : c * b * b⁻¹ = c := by grind
  grind
theorem dv_nonneg {a b : Rat} (ha : 0 ≤ a) (hb : 0 < b) : 0 ≤ a / b := le_dvQ hb (by grind)
theorem ec_nonneg {x : Rat} (hx : 0 ≤ x) : ∀ k, 0 ≤ ecQ x k
  | 0 => by simp only [ecQ]; grind
  | k + 1 => by
    have hk := c0Q k
    simp only [ecQ]
    exact dv_nonneg (dv_nonneg (Rat.mul_nonneg (ec_nonneg hx k) (Rat.mul_nonneg hx hx)) (by grind)) (by grind)
theorem ec_step {x : Rat} (hx : 0 ≤ x) (hx1 : x ≤ 1) (k : Nat) : ecQ x (k + 1) ≤ ecQ x k := by
  have hk := c0Q k
  have h0 := ec_nonneg hx k
  have h1 : x * x ≤ 1 := by
    have := Rat.mul_le_mul_of_nonneg_left hx1 hx
    grind
  have h2 := Rat.mul_le_mul_of_nonneg_left h1 h0
  have h3 := Rat.mul_nonneg h0 hk
  have h4 := Rat.mul_nonneg h3 hk
  simp only [ecQ]
  refine dv_le (by grind) (dv_le (by grind) ?_)
  grind
theorem es_nonneg {x : Rat} (hx : 0 ≤ x) (k : Nat) : 0 ≤ esQ x k := by
  have hk := c0Q k
  exact dv_nonneg (Rat.mul_nonneg (ec_nonneg hx k) hx) (by grind)
theorem es_succ (x : Rat) (k : Nat) : esQ x (k + 1) = esQ x k * (x * x) / (2 * k + 2) / (2 * k + 3) := by
  have hk := c0Q k
  simp only [esQ, ecQ, Rat.natCast_add, Rat.natCast_ofNat]
  rw [show (2 : Rat) * (k + 1) + 1 = 2 * k + 3 by grind]
  simp only [dv_inv]
  grind
theorem es_step {x : Rat} (hx : 0 ≤ x) (hx1 : x ≤ 1) (k : Nat) : esQ x (k + 1) ≤ esQ x k := by
  have hk := c0Q k
  have h0 := es_nonneg hx k
  have h1 : x * x ≤ 1 := by
    have := Rat.mul_le_mul_of_nonneg_left hx1 hx
    grind
  have h2 := Rat.mul_le_mul_of_nonneg_left h1 h0
  have h3 := Rat.mul_nonneg h0 hk
  have h4 := Rat.mul_nonneg h3 hk
  rw [es_succ]
  refine dv_le (by grind) (dv_le (by grind) ?_)
  grind
/-- A sum of falling terms with changing signs is not negative. -/
theorem as_nonneg {f : Nat → Rat} (h0 : ∀ k, 0 ≤ f k) (h : ∀ k, f (k + 1) ≤ f k) : ∀ m, 0 ≤ asQ f (2 * m) ∧ 0 ≤ asQ f (2 * m + 1)
  | 0 => by
    have e : sgQ 0 = 1 := rfl
    have := h0 0
    simp only [asQ, e]
    grind
  | m + 1 => by
    have ⟨i1, i2⟩ := as_nonneg h0 h m
    have e1 : sgQ (2 * m) = 1 := by unfold sgQ; rw [if_pos (by omega)]
    have e2 : sgQ (2 * m + 1) = -1 := by unfold sgQ; rw [if_neg (by omega)]
    have e3 : sgQ (2 * m + 1 + 1) = 1 := by unfold sgQ; rw [if_pos (by omega)]
    have h1 := h (2 * m)
    have h2 := h0 (2 * m + 1 + 1)
    rw [show 2 * (m + 1) = 2 * m + 1 + 1 by omega]
    simp only [asQ, e1, e2, e3]
    grind
theorem v_nonneg {x : Rat} (hx : 0 ≤ x) (hx1 : x ≤ 1) (N : Nat) (hN : 0 < N) : 0 ≤ vQ x N := by
  have hn : (0 : Rat) < N := by exact_mod_cast hN
  have h0 : ∀ k, 0 ≤ ecQ x k * ((N : Rat) / (N + k)) := fun k => by
    have hk := c0Q k
    exact Rat.mul_nonneg (ec_nonneg hx k) (dv_nonneg (by grind) (by grind))
  have h : ∀ k, ecQ x (k + 1) * ((N : Rat) / (N + (k + 1 : Nat))) ≤ ecQ x k * ((N : Rat) / (N + k)) := fun k => by
    have hk := c0Q k
    have h1 : (N : Rat) / (N + (k + 1 : Nat)) ≤ (N : Rat) / (N + k) := by
      simp only [Rat.natCast_add, Rat.natCast_ofNat]
      refine le_dvQ (by grind) ?_
      have i1 := inv_one (show (N : Rat) + (k + 1) ≠ 0 by grind)
      have i2 : (0 : Rat) ≤ (N + (k + 1) : Rat)⁻¹ := inv_pos (by grind)
      have i3 := Rat.mul_nonneg (Rat.le_of_lt hn) i2
      rw [dv_inv]
      generalize (N + (k + 1) : Rat)⁻¹ = p at *
      have i4 : (N : Rat) * p * (N + k) = N * (p * (N + (k + 1))) - N * p := by grind
      rw [i4, i1]
      grind
    have h2 := Rat.mul_le_mul_of_nonneg_left h1 (ec_nonneg hx (k + 1))
    have h3 := Rat.mul_le_mul_of_nonneg_right (ec_step hx hx1 k) (show 0 ≤ (N : Rat) / (N + k) from dv_nonneg (by grind) (by grind))
    grind
  have := as_nonneg h0 h (N / 2)
  unfold vQ
  rcases (show N = 2 * (N / 2) ∨ N = 2 * (N / 2) + 1 by omega) with e | e
  · have h9 := this.1; rw [← e] at h9; exact h9
  · have h9 := this.2; rw [← e] at h9; exact h9
theorem sq_even {x : Rat} (hx : 0 ≤ x) (hx1 : x ≤ 1) (n : Nat) (hn : 0 < n) : asQ (esQ x) (2 * n) * asQ (esQ x) (2 * n) + asQ (ecQ x) (2 * n) * asQ (ecQ x) (2 * n) ≤ 1 := by
  have h := sq_id x (2 * n - 1)
  rw [show 2 * n - 1 + 1 = 2 * n by omega, show sgQ (2 * n) = 1 by unfold sgQ; rw [if_pos (by omega)]] at h
  have := Rat.mul_nonneg (ec_nonneg hx (2 * n)) (v_nonneg hx hx1 (2 * n) (by omega))
  grind
theorem sq_odd {x : Rat} (hx : 0 ≤ x) (hx1 : x ≤ 1) (n : Nat) : 1 ≤ asQ (esQ x) (2 * n + 1) * asQ (esQ x) (2 * n + 1) + asQ (ecQ x) (2 * n + 1) * asQ (ecQ x) (2 * n + 1) := by
  have h := sq_id x (2 * n)
  rw [show sgQ (2 * n + 1) = -1 by unfold sgQ; rw [if_neg (by omega)]] at h
  have := Rat.mul_nonneg (ec_nonneg hx (2 * n + 1)) (v_nonneg hx hx1 (2 * n + 1) (by omega))
  grind
/-- The terms that are rounded down are at most the true ones; those rounded up are at least these. -/
theorem dn_true {x : Rat} {e : Nat → Rat} {A B : Nat → Int} {P t x0 : Int} (hA : ∀ k, 0 < A k) (hB : ∀ k, 0 < B k) (hP : 0 < P) (ht : (t : Rat) = x * P) (h0 : (x0 : Rat) = P * e 0) (he : ∀ k, e (k + 1) = e k * (x * x) / (A k : Int) / (B k : Int)) :
    ∀ k, ((dnS x0 (t * t) (fun k => A k * B k * (P * P)) k : Int) : Rat) ≤ P * e k
  | 0 => by simp only [dnS]; grind
  | k + 1 => by
    have ih := dn_true hA hB hP ht h0 he k
    have hp : (0 : Rat) < P := by exact_mod_cast hP
    have ha : (0 : Rat) < (A k : Int) := by exact_mod_cast hA k
    have hb : (0 : Rat) < (B k : Int) := by exact_mod_cast hB k
    have hd := dv_mul_le (dnS x0 (t * t) (fun k => A k * B k * (P * P)) k * (t * t)) (c := A k * B k * (P * P)) (Int.mul_pos (Int.mul_pos (hA k) (hB k)) (Int.mul_pos hP hP))
    have hs : dnS x0 (t * t) (fun k => A k * B k * (P * P)) (k + 1) = dnS x0 (t * t) (fun k => A k * B k * (P * P)) k * (t * t) / (A k * B k * (P * P)) := rfl
    rw [← hs] at hd
    generalize dnS x0 (t * t) (fun k => A k * B k * (P * P)) (k + 1) = U' at *
    generalize dnS x0 (t * t) (fun k => A k * B k * (P * P)) k = U at *
    have hd2 : (U' : Rat) * (A k * B k * (P * P)) ≤ U * (t * t) := by exact_mod_cast hd
    rw [ht] at hd2
    have hq : (0 : Rat) ≤ (P : Rat)⁻¹ * (P : Rat)⁻¹ := Rat.mul_nonneg (inv_pos hp) (inv_pos hp)
    have hi := inv_one (show (P : Rat) ≠ 0 by grind)
    have hd3 := Rat.mul_le_mul_of_nonneg_right hd2 hq
    have e1 : (U' : Rat) * (A k * B k * (P * P)) * ((P : Rat)⁻¹ * (P : Rat)⁻¹) = U' * (A k * B k) * (((P : Rat)⁻¹ * P) * ((P : Rat)⁻¹ * P)) := by grind
    have e2 : (U : Rat) * (x * P * (x * P)) * ((P : Rat)⁻¹ * (P : Rat)⁻¹) = U * (x * x) * (((P : Rat)⁻¹ * P) * ((P : Rat)⁻¹ * P)) := by grind
    rw [e1, e2, hi] at hd3
    have hx : (0 : Rat) ≤ x * x := by
      rcases Rat.le_total (a := 0) (b := x) with h | h
      · exact Rat.mul_nonneg h h
      · have := Rat.mul_nonneg (show 0 ≤ -x by grind) (show 0 ≤ -x by grind); grind
    have hd4 := Rat.mul_le_mul_of_nonneg_right ih hx
    rw [he, show (P : Rat) * (e k * (x * x) / (A k : Int) / (B k : Int)) = P * e k * (x * x) / (A k : Int) / (B k : Int) by simp only [dv_inv]; grind]
    refine le_dvQ hb (le_dvQ ha ?_)
    grind
theorem up_true {x : Rat} {e : Nat → Rat} {A B : Nat → Int} {P t x0 : Int} (hA : ∀ k, 0 < A k) (hB : ∀ k, 0 < B k) (hP : 0 < P) (ht : (t : Rat) = x * P) (h0 : (x0 : Rat) = P * e 0) (he : ∀ k, e (k + 1) = e k * (x * x) / (A k : Int) / (B k : Int)) :
    ∀ k, P * e k ≤ ((upS x0 (t * t) (fun k => A k * B k * (P * P)) k : Int) : Rat)
  | 0 => by simp only [upS]; grind
  | k + 1 => by
    have ih := up_true hA hB hP ht h0 he k
    have hp : (0 : Rat) < P := by exact_mod_cast hP
    have ha : (0 : Rat) < (A k : Int) := by exact_mod_cast hA k
    have hb : (0 : Rat) < (B k : Int) := by exact_mod_cast hB k
    have hd := le_up_mul (upS x0 (t * t) (fun k => A k * B k * (P * P)) k * (t * t)) (c := A k * B k * (P * P)) (Int.mul_pos (Int.mul_pos (hA k) (hB k)) (Int.mul_pos hP hP))
    have hs : upS x0 (t * t) (fun k => A k * B k * (P * P)) (k + 1) = -(-(upS x0 (t * t) (fun k => A k * B k * (P * P)) k * (t * t)) / (A k * B k * (P * P))) := rfl
    rw [← hs] at hd
    generalize upS x0 (t * t) (fun k => A k * B k * (P * P)) (k + 1) = U' at *
    generalize upS x0 (t * t) (fun k => A k * B k * (P * P)) k = U at *
    have hd2 : (U : Rat) * (t * t) ≤ U' * (A k * B k * (P * P)) := by exact_mod_cast hd
    rw [ht] at hd2
    have hq : (0 : Rat) ≤ (P : Rat)⁻¹ * (P : Rat)⁻¹ := Rat.mul_nonneg (inv_pos hp) (inv_pos hp)
    have hi := inv_one (show (P : Rat) ≠ 0 by grind)
    have hd3 := Rat.mul_le_mul_of_nonneg_right hd2 hq
    have e1 : (U' : Rat) * (A k * B k * (P * P)) * ((P : Rat)⁻¹ * (P : Rat)⁻¹) = U' * (A k * B k) * (((P : Rat)⁻¹ * P) * ((P : Rat)⁻¹ * P)) := by grind
    have e2 : (U : Rat) * (x * P * (x * P)) * ((P : Rat)⁻¹ * (P : Rat)⁻¹) = U * (x * x) * (((P : Rat)⁻¹ * P) * ((P : Rat)⁻¹ * P)) := by grind
    rw [e1, e2, hi] at hd3
    have hx : (0 : Rat) ≤ x * x := by
      rcases Rat.le_total (a := 0) (b := x) with h | h
      · exact Rat.mul_nonneg h h
      · have := Rat.mul_nonneg (show 0 ≤ -x by grind) (show 0 ≤ -x by grind); grind
    have hd4 := Rat.mul_le_mul_of_nonneg_right ih hx
    rw [he, show (P : Rat) * (e k * (x * x) / (A k : Int) / (B k : Int)) = P * e k * (x * x) / (A k : Int) / (B k : Int) by simp only [dv_inv]; grind]
    refine dv_le hb (dv_le ha ?_)
    grind
theorem alt_lo {f g : Nat → Int} {e : Nat → Rat} {P : Int} (hf : ∀ k, (f k : Rat) ≤ P * e k) (hg : ∀ k, P * e k ≤ (g k : Rat)) : ∀ n, ((altI f g n : Int) : Rat) ≤ P * asQ e n
  | 0 => by simp only [altI, asQ]; grind
  | n + 1 => by
    have ih := alt_lo hf hg n
    have h1 := hf n; have h2 := hg n
    simp only [altI, asQ, sgQ, Rat.intCast_add]
    split
    · grind
    · rw [Rat.intCast_neg]; grind
theorem alt_hi {f g : Nat → Int} {e : Nat → Rat} {P : Int} (hf : ∀ k, (f k : Rat) ≤ P * e k) (hg : ∀ k, P * e k ≤ (g k : Rat)) : ∀ n, P * asQ e n ≤ ((altI g f n : Int) : Rat)
  | 0 => by simp only [altI, asQ]; grind
  | n + 1 => by
    have ih := alt_hi hf hg n
    have h1 := hf n; have h2 := hg n
    simp only [altI, asQ, sgQ, Rat.intCast_add]
    split
    · grind
    · rw [Rat.intCast_neg]; grind
/-- The five sums' terms, rounded down and up: of which power, which first one, which multiplier, which divisors. -/
def twP (q : Nat) : Int := 2 ^ q
def exU (t : Int) (q : Nat) : Nat → Int := dnS (twP q) t (fun k => (k + 1) * twP q)
def exV (t : Int) (q : Nat) : Nat → Int := upS (twP q) t (fun k => (k + 1) * twP q)
def taU (t : Int) (q : Nat) : Nat → Int := dnS t (t * t) (fun _ => twP q * twP q)
def taV (t : Int) (q : Nat) : Nat → Int := upS t (t * t) (fun _ => twP q * twP q)
def taC (t : Int) (q : Nat) (k : Nat) : Int := taU t q k / (2 * k + 1)
def taD (t : Int) (q : Nat) (k : Nat) : Int := -(-taV t q k / (2 * k + 1))
def snU (t : Int) (q : Nat) : Nat → Int := dnS t (t * t) (fun k => (2 * k + 2) * (2 * k + 3) * (twP q * twP q))
def snV (t : Int) (q : Nat) : Nat → Int := upS t (t * t) (fun k => (2 * k + 2) * (2 * k + 3) * (twP q * twP q))
def csU (t : Int) (q : Nat) : Nat → Int := dnS (twP q) (t * t) (fun k => (2 * k + 1) * (2 * k + 2) * (twP q * twP q))
def csV (t : Int) (q : Nat) : Nat → Int := upS (twP q) (t * t) (fun k => (2 * k + 1) * (2 * k + 2) * (twP q * twP q))
/-- The five sums: Exp, Atanh, Atan, Sin, Cos. -/
def rwLo (kind : Nat) (t : Int) (q n : Nat) : Int := match kind with
  | 0 => sumI (exU t q) n
  | 1 => sumI (taC t q) n
  | 2 => altI (taC t q) (taD t q) (2 * n)
  | 3 => altI (snU t q) (snV t q) (2 * n)
  | _ => altI (csU t q) (csV t q) (2 * n)
def rwHi (kind : Nat) (t : Int) (q n : Nat) : Int := match kind with
  | 0 => sumI (exV t q) n + 2 * exV t q n
  | 1 => sumI (taD t q) n + 2 * taD t q n
  | 2 => altI (taD t q) (taC t q) (2 * n + 1)
  | 3 => altI (snV t q) (snU t q) (2 * n + 1)
  | _ => altI (csV t q) (csU t q) (2 * n + 1)
theorem tw_pos (q : Nat) : 0 < twP q := Int.pow_pos (by omega)
theorem tw_add (q s : Nat) : twP (q + s) = twP q * twP s := Int.pow_add ..
theorem two_pos (k : Nat) : (0 : Int) < 2 * k + 1 := by omega
theorem sq_le {t P : Int} (h0 : 0 ≤ t) (h : 2 * t ≤ P) : 4 * (t * t) ≤ P * P := by
  have h1 := Int.mul_le_mul h h (by omega) (by omega)
  grind
theorem sn_pos (q k : Nat) : (0 : Int) < (2 * k + 2) * (2 * k + 3) * (twP q * twP q) := Int.mul_pos (Int.mul_pos (by omega) (by omega)) (Int.mul_pos (tw_pos q) (tw_pos q))
theorem cs_pos (q k : Nat) : (0 : Int) < (2 * k + 1) * (2 * k + 2) * (twP q * twP q) := Int.mul_pos (Int.mul_pos (by omega) (by omega)) (Int.mul_pos (tw_pos q) (tw_pos q))
theorem ex_pos (q k : Nat) : (0 : Int) < (k + 1) * twP q := Int.mul_pos (by omega) (tw_pos q)
theorem ta_pos (q : Nat) : (0 : Int) < twP q * twP q := Int.mul_pos (tw_pos q) (tw_pos q)
section
variable {t : Int} {q : Nat}
theorem ta_c_nonneg (h0 : 0 ≤ t) (k : Nat) : 0 ≤ taC t q k := Int.ediv_nonneg (dnS_nonneg h0 (Int.mul_nonneg h0 h0) (fun _ => ta_pos q) k) (Int.le_of_lt (two_pos k))
theorem ta_c_d (h0 : 0 ≤ t) (k : Nat) : taC t q k ≤ taD t q k := by
  have h1 := dn_le_up h0 (Int.mul_nonneg h0 h0) (fun _ => ta_pos q) k
  have h2 := dv_mul_le (taU t q k) (two_pos k)
  have h3 := le_up_mul (taV t q k) (two_pos k)
  refine Int.le_of_mul_le_mul_right (a := 2 * (k : Int) + 1) ?_ (two_pos k)
  unfold taC taD taU taV at *
  omega
theorem ta_c_step (h0 : 0 ≤ t) (h : 2 * t ≤ twP q) (k : Nat) : 4 * taC t q (k + 1) ≤ taC t q k := by
  have h1 := dnS_step h0 (Int.mul_nonneg h0 h0) (fun _ => ta_pos q) (j := 4) (by omega) (fun _ => sq_le h0 h) k
  have h2 := dv_mul_le (taU t q (k + 1)) (c := 2 * ((k + 1 : Nat) : Int) + 1) (by omega)
  have h3 := ta_c_nonneg (q := q) h0 (k + 1)
  unfold taC at *
  rw [le_dv (two_pos k)]
  unfold taU at *
  generalize dnS t (t * t) (fun _ => twP q * twP q) (k + 1) / (2 * ((k + 1 : Nat) : Int) + 1) = c at *
  have h4 : c * (2 * (k : Int) + 1) ≤ c * (2 * ((k + 1 : Nat) : Int) + 1) := Int.mul_le_mul_of_nonneg_left (by omega) h3
  grind
theorem rw_order (h0 : 0 ≤ t) (h : 2 * t ≤ twP q) (kind n m : Nat) : rwLo kind t q n ≤ rwHi kind t q m := by
  have ht2 := Int.mul_nonneg h0 h0
  have hp := tw_pos q
  have h4 := sq_le h0 h
  unfold rwLo rwHi
  split
  · refine sum_meet (dnS_nonneg (Int.le_of_lt hp) h0 (ex_pos q)) (dn_le_up (Int.le_of_lt hp) h0 (ex_pos q)) (dnS_step (Int.le_of_lt hp) h0 (ex_pos q) (by omega) fun k => ?_) n m
    have : (k : Int) * twP q ≥ 0 := Int.mul_nonneg (by omega) (Int.le_of_lt hp)
    grind
  · exact sum_meet (ta_c_nonneg h0) (ta_c_d h0) (fun k => by have := ta_c_step h0 h k; have := ta_c_nonneg (q := q) h0 (k + 1); omega) n m
  · exact alt_meet (ta_c_nonneg h0) (fun k => by have := ta_c_step h0 h k; have := ta_c_nonneg (q := q) h0 (k + 1); omega) (ta_c_d h0) n m
  · have h5 : ∀ k : Nat, 1 * (t * t) ≤ (2 * (k : Int) + 2) * (2 * k + 3) * (twP q * twP q) := fun k => by
      have h5 := Int.mul_le_mul_of_nonneg_right (show (1 : Int) ≤ (2 * k + 2) * (2 * k + 3) from Int.le_trans (show (1 : Int) ≤ 1 * 1 by omega) (Int.mul_le_mul (by omega) (by omega) (by omega) (by omega))) (Int.le_of_lt (ta_pos q))
      omega
    exact alt_meet (dnS_nonneg h0 ht2 (sn_pos q)) (fun k => by have h6 := dnS_step h0 ht2 (sn_pos q) (by omega) h5 k; rw [Int.one_mul] at h6; exact h6) (dn_le_up h0 ht2 (sn_pos q)) n m
  · have h5 : ∀ k : Nat, 1 * (t * t) ≤ (2 * (k : Int) + 1) * (2 * k + 2) * (twP q * twP q) := fun k => by
      have h5 := Int.mul_le_mul_of_nonneg_right (show (1 : Int) ≤ (2 * k + 1) * (2 * k + 2) from Int.le_trans (show (1 : Int) ≤ 1 * 1 by omega) (Int.mul_le_mul (by omega) (by omega) (by omega) (by omega))) (Int.le_of_lt (ta_pos q))
      omega
    exact alt_meet (dnS_nonneg (Int.le_of_lt hp) ht2 (cs_pos q)) (fun k => by have h6 := dnS_step (Int.le_of_lt hp) ht2 (cs_pos q) (by omega) h5 k; rw [Int.one_mul] at h6; exact h6) (dn_le_up (Int.le_of_lt hp) ht2 (cs_pos q)) n m
/-- At s places more: each term lies between. -/
theorem ex_fine (h0 : 0 ≤ t) (s k : Nat) : exU t q k * twP s ≤ exU (t * twP s) (q + s) k ∧ exV (t * twP s) (q + s) k ≤ exV t q k * twP s := by
  have e : (fun k : Nat => ((k : Int) + 1) * twP (q + s)) = fun k : Nat => ((k : Int) + 1) * twP q * twP s := funext fun k => by rw [tw_add, Int.mul_assoc]
  unfold exU exV
  rw [e, tw_add, dnS_same (tw_pos s), upS_same (tw_pos s)]
  exact ⟨dnS_finer (Int.le_of_lt (tw_pos q)) h0 (ex_pos q) (Int.le_of_lt (tw_pos s)) k, upS_finer (Int.le_of_lt (tw_pos q)) h0 (ex_pos q) (Int.le_of_lt (tw_pos s)) k⟩
theorem sq_same (t : Int) (s : Nat) : t * twP s * (t * twP s) = t * t * (twP s * twP s) := by grind
theorem ta_fine0 (h0 : 0 ≤ t) (s k : Nat) : taU t q k * twP s ≤ taU (t * twP s) (q + s) k ∧ taV (t * twP s) (q + s) k ≤ taV t q k * twP s := by
  have e : (fun _ : Nat => twP (q + s) * twP (q + s)) = fun _ : Nat => twP q * twP q * (twP s * twP s) := funext fun k => by rw [tw_add]; grind
  unfold taU taV
  rw [e, sq_same, dnS_same (ta_pos s), upS_same (ta_pos s)]
  exact ⟨dnS_finer h0 (Int.mul_nonneg h0 h0) (fun _ => ta_pos q) (Int.le_of_lt (tw_pos s)) k, upS_finer h0 (Int.mul_nonneg h0 h0) (fun _ => ta_pos q) (Int.le_of_lt (tw_pos s)) k⟩
theorem ta_fine (h0 : 0 ≤ t) (s k : Nat) : taC t q k * twP s ≤ taC (t * twP s) (q + s) k ∧ taD (t * twP s) (q + s) k ≤ taD t q k * twP s := by
  have h1 := ta_fine0 (q := q) h0 s k
  have h2 := dv_mul_le (taU t q k) (two_pos k)
  have h3 := le_up_mul (taV t q k) (two_pos k)
  have h4 := Int.mul_le_mul_of_nonneg_right h2 (Int.le_of_lt (tw_pos s))
  have h5 := Int.mul_le_mul_of_nonneg_right h3 (Int.le_of_lt (tw_pos s))
  unfold taC taD
  rw [le_dv (two_pos k), up_le (two_pos k)]
  grind
theorem sn_fine (h0 : 0 ≤ t) (s k : Nat) : snU t q k * twP s ≤ snU (t * twP s) (q + s) k ∧ snV (t * twP s) (q + s) k ≤ snV t q k * twP s := by
  have e : (fun k : Nat => (2 * (k : Int) + 2) * (2 * k + 3) * (twP (q + s) * twP (q + s))) = fun k : Nat => (2 * (k : Int) + 2) * (2 * k + 3) * (twP q * twP q) * (twP s * twP s) := funext fun k => by rw [tw_add]; grind
  unfold snU snV
  rw [e, sq_same, dnS_same (ta_pos s), upS_same (ta_pos s)]
  exact ⟨dnS_finer h0 (Int.mul_nonneg h0 h0) (sn_pos q) (Int.le_of_lt (tw_pos s)) k, upS_finer h0 (Int.mul_nonneg h0 h0) (sn_pos q) (Int.le_of_lt (tw_pos s)) k⟩
theorem cs_fine (h0 : 0 ≤ t) (s k : Nat) : csU t q k * twP s ≤ csU (t * twP s) (q + s) k ∧ csV (t * twP s) (q + s) k ≤ csV t q k * twP s := by
  have e : (fun k : Nat => (2 * (k : Int) + 1) * (2 * k + 2) * (twP (q + s) * twP (q + s))) = fun k : Nat => (2 * (k : Int) + 1) * (2 * k + 2) * (twP q * twP q) * (twP s * twP s) := funext fun k => by rw [tw_add]; grind
  unfold csU csV
  rw [e, sq_same, tw_add, dnS_same (ta_pos s), upS_same (ta_pos s)]
  exact ⟨dnS_finer (Int.le_of_lt (tw_pos q)) (Int.mul_nonneg h0 h0) (cs_pos q) (Int.le_of_lt (tw_pos s)) k, upS_finer (Int.le_of_lt (tw_pos q)) (Int.mul_nonneg h0 h0) (cs_pos q) (Int.le_of_lt (tw_pos s)) k⟩
theorem rw_fine (h0 : 0 ≤ t) (kind n s : Nat) : rwLo kind t q n * twP s ≤ rwLo kind (t * twP s) (q + s) n ∧ rwHi kind (t * twP s) (q + s) n ≤ rwHi kind t q n * twP s := by
  unfold rwLo rwHi
  split
  · have h := ex_fine (q := q) h0 s
    have h1 := sum_le (fun k => (h k).1) n
    have h2 := sum_le (fun k => (h k).2) n
    have h3 := (h n).2
    rw [sum_mul] at h1 h2
    grind
  · have h := ta_fine (q := q) h0 s
    have h1 := sum_le (fun k => (h k).1) n
    have h2 := sum_le (fun k => (h k).2) n
    have h3 := (h n).2
    rw [sum_mul] at h1 h2
    grind
  · have h := ta_fine (q := q) h0 s
    have h1 := alt_le (fun k => (h k).1) (fun k => (h k).2) (2 * n)
    have h2 := alt_le (fun k => (h k).2) (fun k => (h k).1) (2 * n + 1)
    rw [alt_mul] at h1 h2
    exact ⟨h1, h2⟩
  · have h := sn_fine (q := q) h0 s
    have h1 := alt_le (fun k => (h k).1) (fun k => (h k).2) (2 * n)
    have h2 := alt_le (fun k => (h k).2) (fun k => (h k).1) (2 * n + 1)
    rw [alt_mul] at h1 h2
    exact ⟨h1, h2⟩
  · have h := cs_fine (q := q) h0 s
    have h1 := alt_le (fun k => (h k).1) (fun k => (h k).2) (2 * n)
    have h2 := alt_le (fun k => (h k).2) (fun k => (h k).1) (2 * n + 1)
    rw [alt_mul] at h1 h2
    exact ⟨h1, h2⟩
theorem rw_places (h0 : 0 ≤ t) (h : 2 * t ≤ twP q) (kind n s : Nat) : rwLo kind t q n * twP s ≤ rwHi kind (t * twP s) (q + s) n ∧ rwLo kind (t * twP s) (q + s) n ≤ rwHi kind t q n * twP s := by
  have hf := rw_fine (q := q) h0 kind n s
  have ho := rw_order (t := t * twP s) (q := q + s) (Int.mul_nonneg h0 (Int.le_of_lt (tw_pos s))) (by rw [tw_add]; have := Int.mul_le_mul_of_nonneg_right h (Int.le_of_lt (tw_pos s)); grind) kind n n
  omega
end
section
variable {t : Int} {q : Nat}
/-- The number that t stands for. -/
def ptQ (t : Int) (q : Nat) : Rat := t / (twP q : Int)
theorem pt_mul (t : Int) (q : Nat) : (t : Rat) = ptQ t q * (twP q : Int) := by
  have hp : (0 : Rat) < (twP q : Int) := by exact_mod_cast tw_pos q
  unfold ptQ
  grind
theorem pt_nonneg (h0 : 0 ≤ t) : 0 ≤ ptQ t q := dv_nonneg (by exact_mod_cast h0) (by exact_mod_cast tw_pos q)
theorem pt_le (h : t ≤ twP q) : ptQ t q ≤ 1 := by
  have h1 : (t : Rat) ≤ (twP q : Int) := by exact_mod_cast h
  exact dv_le (by exact_mod_cast tw_pos q) (by grind)
theorem sn_true (t : Int) (q : Nat) (k : Nat) : ((snU t q k : Int) : Rat) ≤ (twP q : Int) * esQ (ptQ t q) k ∧ (twP q : Int) * esQ (ptQ t q) k ≤ ((snV t q k : Int) : Rat) := by
  have h0 : (t : Rat) = (twP q : Int) * esQ (ptQ t q) 0 := by
    have := pt_mul t q
    simp only [esQ, ecQ]
    grind
  have he : ∀ k : Nat, esQ (ptQ t q) (k + 1) = esQ (ptQ t q) k * (ptQ t q * ptQ t q) / ((2 * (k : Int) + 2 : Int) : Rat) / ((2 * (k : Int) + 3 : Int) : Rat) := fun k => by
    rw [es_succ]
    simp only [Rat.intCast_add, Rat.intCast_mul, Rat.intCast_ofNat, Rat.intCast_natCast]
  exact ⟨dn_true (fun k => by omega) (fun k => by omega) (tw_pos q) (pt_mul t q) h0 he k, up_true (fun k => by omega) (fun k => by omega) (tw_pos q) (pt_mul t q) h0 he k⟩
theorem cs_true (t : Int) (q : Nat) (k : Nat) : ((csU t q k : Int) : Rat) ≤ (twP q : Int) * ecQ (ptQ t q) k ∧ (twP q : Int) * ecQ (ptQ t q) k ≤ ((csV t q k : Int) : Rat) := by
  have h0 : ((twP q : Int) : Rat) = (twP q : Int) * ecQ (ptQ t q) 0 := by
    simp only [ecQ]
    grind
  have he : ∀ k : Nat, ecQ (ptQ t q) (k + 1) = ecQ (ptQ t q) k * (ptQ t q * ptQ t q) / ((2 * (k : Int) + 1 : Int) : Rat) / ((2 * (k : Int) + 2 : Int) : Rat) := fun k => by
    simp only [ecQ, Rat.intCast_add, Rat.intCast_mul, Rat.intCast_ofNat, Rat.intCast_natCast]
  exact ⟨dn_true (fun k => by omega) (fun k => by omega) (tw_pos q) (pt_mul t q) h0 he k, up_true (fun k => by omega) (fun k => by omega) (tw_pos q) (pt_mul t q) h0 he k⟩
/-- A cosine's lower sum is not negative, at twenty places and more, of at most forty terms. -/
theorem csV_step (h0 : 0 ≤ t) (h : 2 * t ≤ twP q) (k : Nat) : 2 * csV t q (k + 1) ≤ csV t q k + 2 := by
  have hp := tw_pos q
  have h4 := sq_le h0 h
  have hv := upS_nonneg (Int.le_of_lt hp) (Int.mul_nonneg h0 h0) (cs_pos q) k
  have h5 : 2 * (t * t) ≤ (2 * (k : Int) + 1) * (2 * k + 2) * (twP q * twP q) := by
    have h5 := Int.mul_le_mul_of_nonneg_right (show (1 : Int) ≤ (2 * k + 1) * (2 * k + 2) from Int.le_trans (show (1 : Int) ≤ 1 * 1 by omega) (Int.mul_le_mul (by omega) (by omega) (by omega) (by omega))) (Int.le_of_lt (ta_pos q))
    have := Int.mul_nonneg h0 h0
    omega
  have hs : csV t q (k + 1) = -(-(csV t q k * (t * t)) / ((2 * (k : Int) + 1) * (2 * k + 2) * (twP q * twP q))) := rfl
  have hc := cs_pos q k
  have hd : csV t q (k + 1) ≤ csV t q k / 2 + 1 := by
    rw [hs, up_le hc]
    have h6 := Int.mul_le_mul_of_nonneg_left h5 (show 0 ≤ csV t q k / 2 + 1 from Int.add_nonneg (Int.ediv_nonneg hv (by omega)) (by omega))
    have h7 : csV t q k ≤ 2 * (csV t q k / 2 + 1) := by omega
    have h8 := Int.mul_le_mul_of_nonneg_right h7 (Int.mul_nonneg h0 h0)
    grind
  omega
theorem cs_lo (h0 : 0 ≤ t) (h : 2 * t ≤ twP q) (m : Nat) : twP q + 4 * csV t q (2 * (m + 1)) ≤ 4 * altI (csU t q) (csV t q) (2 * (m + 1)) + 12 * (m + 1) := by
  have ht2 := Int.mul_nonneg h0 h0
  have hp := tw_pos q
  induction m with
  | zero =>
    have h1 : 2 * csV t q 1 ≤ csV t q 0 + 2 := csV_step h0 h 0
    have h2 : 2 * csV t q 2 ≤ csV t q 1 + 2 := csV_step h0 h 1
    have e0 : csV t q 0 = twP q := rfl
    have e1 : csU t q 0 = twP q := rfl
    have ea : altI (csU t q) (csV t q) (2 * (0 + 1)) = csU t q 0 - csV t q 1 := by simp [altI]; omega
    rw [ea, e1]
    rw [e0] at h1
    show twP q + 4 * csV t q 2 ≤ _
    omega
  | succ m ih =>
    have h1 := csV_step h0 h (2 * (m + 1))
    have h2 := csV_step h0 h (2 * (m + 1) + 1)
    have h3 := dnS_nonneg (Int.le_of_lt hp) ht2 (cs_pos q) (2 * (m + 1))
    have h4 := upS_nonneg (Int.le_of_lt hp) ht2 (cs_pos q) (2 * (m + 1))
    have ea : altI (csU t q) (csV t q) (2 * (m + 1 + 1)) = altI (csU t q) (csV t q) (2 * (m + 1)) + csU t q (2 * (m + 1)) - csV t q (2 * (m + 1) + 1) := by
      rw [show 2 * (m + 1 + 1) = 2 * (m + 1) + 1 + 1 by omega]
      simp only [altI]
      rw [if_pos (by omega), if_neg (by omega)]
      omega
    rw [ea, show 2 * (m + 1 + 1) = 2 * (m + 1) + 1 + 1 by omega]
    unfold csU csV at *
    omega
theorem rw_squares (h0 : 0 ≤ t) (h : 2 * t ≤ twP q) (n : Nat) (hn : 0 < n) (hq : 12 * (n : Int) ≤ twP q) (hs : 0 ≤ rwLo 3 t q n) :
    rwLo 3 t q n * rwLo 3 t q n + rwLo 4 t q n * rwLo 4 t q n ≤ twP q * twP q := by
  have hp : (0 : Rat) < (twP q : Int) := by exact_mod_cast tw_pos q
  have hc : 0 ≤ rwLo 4 t q n := by
    have h1 := cs_lo h0 h (n - 1)
    have h2 := upS_nonneg (Int.le_of_lt (tw_pos q)) (Int.mul_nonneg h0 h0) (cs_pos q) (2 * n)
    rw [show n - 1 + 1 = n by omega] at h1
    show 0 ≤ altI (csU t q) (csV t q) (2 * n)
    unfold csU csV at *
    have : ((n - 1 : Nat) : Int) + 1 = n := by omega
    omega
  have hx := pt_nonneg (q := q) h0
  have hx1 : ptQ t q ≤ 1 := pt_le (by omega)
  have i1 := alt_lo (fun k => (sn_true t q k).1) (fun k => (sn_true t q k).2) (2 * n)
  have i2 := alt_lo (fun k => (cs_true t q k).1) (fun k => (cs_true t q k).2) (2 * n)
  have i3 := sq_even hx hx1 n hn
  have j1 : (0 : Rat) ≤ ((rwLo 3 t q n : Int) : Rat) := by exact_mod_cast hs
  have j2 : (0 : Rat) ≤ ((rwLo 4 t q n : Int) : Rat) := by exact_mod_cast hc
  change ((rwLo 3 t q n : Int) : Rat) ≤ _ at i1
  change ((rwLo 4 t q n : Int) : Rat) ≤ _ at i2
  have k1 := Rat.mul_le_mul_of_nonneg_left i1 j1
  have k2 := Rat.mul_le_mul_of_nonneg_right i1 (show 0 ≤ (twP q : Int) * asQ (esQ (ptQ t q)) (2 * n) by grind)
  have k3 := Rat.mul_le_mul_of_nonneg_left i2 j2
  have k4 := Rat.mul_le_mul_of_nonneg_right i2 (show 0 ≤ (twP q : Int) * asQ (ecQ (ptQ t q)) (2 * n) by grind)
  have k5 := Rat.mul_le_mul_of_nonneg_left i3 (Rat.mul_nonneg (Rat.le_of_lt hp) (Rat.le_of_lt hp))
  have fin : ((rwLo 3 t q n : Int) : Rat) * rwLo 3 t q n + rwLo 4 t q n * rwLo 4 t q n ≤ (twP q : Int) * (twP q : Int) := by grind
  exact_mod_cast fin
theorem rw_squares_up (h0 : 0 ≤ t) (h : 2 * t ≤ twP q) (n : Nat) :
    twP q * twP q ≤ rwHi 3 t q n * rwHi 3 t q n + rwHi 4 t q n * rwHi 4 t q n := by
  have hp : (0 : Rat) < (twP q : Int) := by exact_mod_cast tw_pos q
  have hx := pt_nonneg (q := q) h0
  have hx1 : ptQ t q ≤ 1 := pt_le (by omega)
  have i1 := alt_hi (fun k => (sn_true t q k).1) (fun k => (sn_true t q k).2) (2 * n + 1)
  have i2 := alt_hi (fun k => (cs_true t q k).1) (fun k => (cs_true t q k).2) (2 * n + 1)
  have i3 := sq_odd hx hx1 n
  have j1 := Rat.mul_nonneg (Rat.le_of_lt hp) (as_nonneg (es_nonneg hx) (es_step hx hx1) n).2
  have j2 := Rat.mul_nonneg (Rat.le_of_lt hp) (as_nonneg (ec_nonneg hx) (ec_step hx hx1) n).2
  change _ ≤ ((rwHi 3 t q n : Int) : Rat) at i1
  change _ ≤ ((rwHi 4 t q n : Int) : Rat) at i2
  have k1 := Rat.mul_le_mul_of_nonneg_left i1 j1
  have k2 := Rat.mul_le_mul_of_nonneg_right i1 (show 0 ≤ ((rwHi 3 t q n : Int) : Rat) by grind)
  have k3 := Rat.mul_le_mul_of_nonneg_left i2 j2
  have k4 := Rat.mul_le_mul_of_nonneg_right i2 (show 0 ≤ ((rwHi 4 t q n : Int) : Rat) by grind)
  have k5 := Rat.mul_le_mul_of_nonneg_left i3 (Rat.mul_nonneg (Rat.le_of_lt hp) (Rat.le_of_lt hp))
  have fin : (twP q : Int) * (twP q : Int) ≤ ((rwHi 3 t q n : Int) : Rat) * rwHi 3 t q n + rwHi 4 t q n * rwHi 4 t q n := by grind
  exact_mod_cast fin
end
section
variable {x m M : Int} {D : Nat → Int}
theorem upS_step (hx : 0 ≤ x) (hm : 0 ≤ m) (hD : ∀ k, 0 < D k) (k : Nat) (hd : m ≤ D k) : upS x m D (k + 1) ≤ upS x m D k := by
  have h0 := upS_nonneg hx hm hD k
  show -(-(upS x m D k * m) / D k) ≤ upS x m D k
  rw [up_le (hD k)]
  exact Int.mul_le_mul_of_nonneg_left hd h0
theorem upS_le (hx : 0 ≤ x) (hm : 0 ≤ m) (hD : ∀ k, 0 < D k) (hd : ∀ k, m ≤ D k) (hM : x ≤ M) : ∀ k, upS x m D k ≤ M
  | 0 => hM
  | k + 1 => Int.le_trans (upS_step hx hm hD k (hd k)) (upS_le hx hm hD hd hM k)
/-- Where the first divisor alone is less, and at least half the multiplier. -/
theorem upS_le2 (hx : 0 ≤ x) (hm : 0 ≤ m) (hD : ∀ k, 0 < D k) (h0 : m ≤ 2 * D 0) (hd : ∀ k, m ≤ D (k + 1)) (hM : 2 * x ≤ M) : ∀ k, upS x m D k ≤ M
  | 0 => by show x ≤ M; omega
  | 1 => by
    refine Int.le_trans ?_ hM
    show -(-(x * m) / D 0) ≤ 2 * x
    rw [up_le (hD 0)]
    have := Int.mul_le_mul_of_nonneg_left h0 hx
    grind
  | k + 2 => Int.le_trans (upS_step hx hm hD (k + 1) (hd k)) (upS_le2 hx hm hD h0 hd hM (k + 1))
end
theorem sum_bd {f : Nat → Int} {M : Int} (h0 : ∀ k, 0 ≤ f k) (h : ∀ k, f k ≤ M) : ∀ n : Nat, 0 ≤ sumI f n ∧ sumI f n ≤ n * M
  | 0 => by simp [sumI]
  | n + 1 => by
    have ih := sum_bd h0 h n
    have h1 := h0 n; have h2 := h n
    have e : ((n + 1 : Nat) : Int) * M = n * M + M := by rw [Int.natCast_add, Int.add_mul]; simp
    simp only [sumI]
    rw [e]
    omega
theorem alt_bd {e o : Nat → Int} {M : Int} (h0 : ∀ k, 0 ≤ e k) (h : ∀ k, e k ≤ M) (h1 : ∀ k, 0 ≤ o k) (h2 : ∀ k, o k ≤ M) : ∀ n : Nat, -(n * M) ≤ altI e o n ∧ altI e o n ≤ n * M
  | 0 => by simp [altI]
  | n + 1 => by
    have ih := alt_bd h0 h h1 h2 n
    have a1 := h0 n; have a2 := h n; have a3 := h1 n; have a4 := h2 n
    have e : ((n + 1 : Nat) : Int) * M = n * M + M := by rw [Int.natCast_add, Int.add_mul]; simp
    simp only [altI]
    rw [e]
    split <;> omega
section
variable {t : Int} {q : Nat}
theorem ex_bd (h0 : 0 ≤ t) (h : t ≤ twP q) (k : Nat) : 0 ≤ exU t q k ∧ exU t q k ≤ exV t q k ∧ exV t q k ≤ twP q := by
  have hp := Int.le_of_lt (tw_pos q)
  refine ⟨dnS_nonneg hp h0 (ex_pos q) k, dn_le_up hp h0 (ex_pos q) k, upS_le hp h0 (ex_pos q) (fun k => ?_) (Int.le_refl _) k⟩
  have := Int.mul_nonneg (show (0 : Int) ≤ k by omega) hp
  rw [Int.add_mul]
  omega
theorem ta_bd (h0 : 0 ≤ t) (h : t ≤ twP q) (k : Nat) : 0 ≤ taU t q k ∧ taU t q k ≤ taV t q k ∧ taV t q k ≤ twP q := by
  have ht := Int.mul_nonneg h0 h0
  exact ⟨dnS_nonneg h0 ht (fun _ => ta_pos q) k, dn_le_up h0 ht (fun _ => ta_pos q) k, upS_le h0 ht (fun _ => ta_pos q) (fun _ => Int.mul_le_mul h h h0 (by omega)) h k⟩
theorem sn_bd (h0 : 0 ≤ t) (h : t ≤ 2 * twP q) (k : Nat) : 0 ≤ snU t q k ∧ snU t q k ≤ snV t q k ∧ snV t q k ≤ 2 * twP q := by
  have ht := Int.mul_nonneg h0 h0
  have hp := tw_pos q
  refine ⟨dnS_nonneg h0 ht (sn_pos q) k, dn_le_up h0 ht (sn_pos q) k, upS_le h0 ht (sn_pos q) (fun k => ?_) h k⟩
  have h1 := Int.mul_le_mul h h h0 (by omega)
  have h2 := Int.mul_le_mul_of_nonneg_right (show (4 : Int) ≤ (2 * k + 2) * (2 * k + 3) from Int.le_trans (show (4 : Int) ≤ 2 * 2 by omega) (Int.mul_le_mul (by omega) (by omega) (by omega) (by omega))) (Int.le_of_lt (ta_pos q))
  grind
theorem cs_bd (h0 : 0 ≤ t) (h : t ≤ 2 * twP q) (k : Nat) : 0 ≤ csU t q k ∧ csU t q k ≤ csV t q k ∧ csV t q k ≤ 2 * twP q := by
  have ht := Int.mul_nonneg h0 h0
  have hp := tw_pos q
  have h1 := Int.mul_le_mul h h h0 (by omega)
  refine ⟨dnS_nonneg (Int.le_of_lt hp) ht (cs_pos q) k, dn_le_up (Int.le_of_lt hp) ht (cs_pos q) k, upS_le2 (Int.le_of_lt hp) ht (cs_pos q) ?_ (fun k => ?_) (Int.le_refl _) k⟩
  · show t * t ≤ 2 * ((2 * 0 + 1) * (2 * 0 + 2) * (twP q * twP q))
    grind
  · have h2 := Int.mul_le_mul_of_nonneg_right (show (4 : Int) ≤ (2 * ((k + 1 : Nat) : Int) + 1) * (2 * ((k + 1 : Nat) : Int) + 2) from Int.le_trans (show (4 : Int) ≤ 2 * 2 by omega) (Int.mul_le_mul (by omega) (by omega) (by omega) (by omega))) (Int.le_of_lt (ta_pos q))
    grind
/-- The next term, as it is reckoned: by the power first, then by the divisor. -/
theorem ex_dn (t : Int) (q k : Nat) : exU t q k * t / twP q / ((k : Int) + 1) = exU t q (k + 1) := by
  show _ = exU t q k * t / (((k : Int) + 1) * twP q)
  rw [Int.ediv_ediv_of_nonneg (Int.le_of_lt (tw_pos q)), Int.mul_comm (twP q)]
theorem ex_up (t : Int) (q k : Nat) : -(-(-(-(exV t q k * t) / twP q)) / ((k : Int) + 1)) = exV t q (k + 1) := by
  show _ = -(-(exV t q k * t) / (((k : Int) + 1) * twP q))
  rw [Int.neg_neg, Int.ediv_ediv_of_nonneg (Int.le_of_lt (tw_pos q)), Int.mul_comm (twP q)]
end
end Go.Proofs.Ytiikmjnnlckiiaa
