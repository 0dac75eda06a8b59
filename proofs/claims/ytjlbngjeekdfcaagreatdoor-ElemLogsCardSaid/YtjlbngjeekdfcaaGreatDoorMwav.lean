/-
 sine and cosine on the circle, how far they turn.
-/
import Derived.Test.YtjlbngjeekdfcaaGreatDoorMcon
namespace Go.Proofs.YtjlbngjeekdfcaaGreatDoor.MX
set_option linter.unusedVariables false
open Rg
theorem cs_neg (n : Nat) (x : Rat) : cs n (-x) = cs n x ∧ sn n (-x) = -sn n x := by
 have ec : ∀ k, ecQ (-x) k = ecQ x k := fun k => by
  induction k with
  | zero => rfl
  | succ k ih => show ecQ (-x) k * (-x * -x) / _ / _ = ecQ x k * (x * x) / _ / _; rw [ih, show -x * -x = x * x by grind]
 have es : ∀ k, esQ (-x) k = -esQ x k := fun k => by
  show ecQ (-x) k * -x / _ = -(ecQ x k * x / _)
  rw [ec]; simp only [Rat.div_def]; grind
 rw [show cs n (-x) = cs n x ∧ sn n (-x) = -sn n x ↔ cs n (-x) = cs n x ∧ sn n (-x) = -sn n x from Iff.rfl]
 have e1 : ecQ (-x) = ecQ x := funext ec
 have e2 : esQ (-x) = fun k => -esQ x k := funext es
 rcases Nat.mod_two_eq_zero_or_one n with c | c
 ·obtain ⟨m, rfl⟩ : ∃ m, n = 2 * m := ⟨n / 2, by omega⟩
  have a := cs_even (-x) m; have b := cs_even x m
  rw [a.1, a.2.2.1, b.1, b.2.2.1, e1, e2, as_neg]
  exact ⟨rfl, rfl⟩
 ·obtain ⟨m, rfl⟩ : ∃ m, n = 2 * m + 1 := ⟨n / 2, by omega⟩
  have a := cs_even (-x) m; have b := cs_even x m
  rw [a.2.1, a.2.2.2, b.2.1, b.2.2.2, e1, e2, as_neg]
  exact ⟨rfl, rfl⟩
theorem E_one (n : Nat) (hn : 1 ≤ n) : E n (im 0) = (e : G) := by
 obtain ⟨m, rfl⟩ : ∃ m, n = m + 1 := ⟨n - 1, by omega⟩
 unfold E
 rw [S_head, S_congr (g := fun _ => (o : G)) fun i _ => by
  show Rg.sc _ (ex (im 0) i * im 0) = o
  rw [show im 0 = (o : G) from rfl, mo, so]]
 have : ∀ n, S (fun _ => (o : G)) n = o := fun n => by
  induction n with
  | zero => rfl
  | succ n ih => show S _ n + (o : G) = o; rw [ih]; exact ao _
 rw [this, ao]; rfl
theorem trig_rb {s : Nat → Rat} (h : Rb s) : Rb (fun n => cs n (s n)) ∧ Rb (fun n => sn n (s n)) := Rb.of_nm h.im.E
theorem circle {s : Nat → Rat} (h : Rb s) : Rr (fun n => cs n (s n) * cs n (s n) + sn n (s n) * sn n (s n)) (fun _ => 1) := fun d hd => by
 obtain ⟨N, hN⟩ := (Nr.E_add h.im h.neg.im).re d hd
 refine ⟨N + 1, fun n hn => ?_⟩
 have h1 := hN n (by omega)
 have e0 : E n (im (s n) + im (-s n)) = (e : G) := by
  rw [im_add, show s n + -s n = 0 by grind]; exact E_one n (by omega)
 have e1 : (E n (im (s n)) * E n (im (-s n))).re = cs n (s n) * cs n (s n) + sn n (s n) * sn n (s n) := by
  rw [G.mul_re]
  show cs n (s n) * cs n (-s n) - sn n (s n) * sn n (-s n) = _
  rw [(cs_neg n (s n)).1, (cs_neg n (s n)).2]; grind
 dsimp only at h1 ⊢
 rw [e0, e1] at h1
 exact h1
theorem trig_add {s t : Nat → Rat} (h : Rb s) (k : Rb t) : Rr (fun n => cs n (s n) * cs n (t n) - sn n (s n) * sn n (t n)) (fun n => cs n (s n + t n)) ∧ Rr (fun n => cs n (s n) * sn n (t n) + sn n (s n) * cs n (t n)) (fun n => sn n (s n + t n)) := by
 have a := Nr.E_add h.im k.im
 refine ⟨fun d hd => ?_, fun d hd => ?_⟩
 ·obtain ⟨N, hN⟩ := a.re d hd
  refine ⟨N, fun n hn => ?_⟩
  have h1 := hN n hn
  dsimp only at h1 ⊢
  rw [im_add] at h1
  exact h1
 ·obtain ⟨N, hN⟩ := a.im d hd
  refine ⟨N, fun n hn => ?_⟩
  have h1 := hN n hn
  dsimp only at h1 ⊢
  rw [im_add] at h1
  exact h1
theorem cs_low {x : Rat} (h : -1 ≤ x ∧ x ≤ 1) (n : Nat) (hn : 4 ≤ n) : 1 - x * x / 2 ≤ cs n x := by
 have pos : ∀ y : Rat, 0 ≤ y → y ≤ 1 → 1 - y * y / 2 ≤ cs n y := fun y h0 h1 => by
  have b := as_between (ec_nonneg h0) (n := 1) (fun k hk => ec_step2 h0 (by grind) k (by omega))
  have e : asQ (ecQ y) (2 * 1) = 1 - y * y / 2 := by
   show 0 + sgQ 0 * ecQ y 0 + sgQ 1 * ecQ y 1 = _
   rw [show sgQ 0 = 1 from rfl, show sgQ 1 = -1 from rfl]
   show 0 + 1 * 1 + -1 * (1 * (y * y) / (2 * ((0 : Nat) : Rat) + 1) / (2 * ((0 : Nat) : Rat) + 2)) = _
   rw [show ((0 : Nat) : Rat) = 0 from rfl]; grind
  have key : ∀ m, 2 ≤ m → 1 - y * y / 2 ≤ asQ (ecQ y) m := fun m hm => by
   rw [← e]
   rcases Nat.mod_two_eq_zero_or_one m with c | c
   ·obtain ⟨j, rfl⟩ : ∃ j, m = 2 * 1 + 2 * j := ⟨(m - 2) / 2, by omega⟩
    exact (b j).1.1
   ·obtain ⟨j, rfl⟩ : ∃ j, m = 2 * 1 + 2 * j + 1 := ⟨(m - 3) / 2, by omega⟩
    exact (b j).1.2
  rcases Nat.mod_two_eq_zero_or_one n with c | c
  ·obtain ⟨m, rfl⟩ : ∃ m, n = 2 * m := ⟨n / 2, by omega⟩
   rw [(cs_even y m).1]; exact key m (by omega)
  ·obtain ⟨m, rfl⟩ : ∃ m, n = 2 * m + 1 := ⟨n / 2, by omega⟩
   rw [(cs_even y m).2.1]; exact key (m + 1) (by omega)
 rcases (show 0 ≤ x ∨ x ≤ 0 by grind) with a | a
 ·exact pos x a h.2
 ·have := pos (-x) (by grind) (by grind)
  rw [(cs_neg n x).1] at this
  grind
theorem sq_nn (x : Rat) : 0 ≤ x * x := by
 rcases (show 0 ≤ x ∨ x ≤ 0 by grind) with a | a
 ·exact Rat.mul_nonneg a a
 ·have := Rat.mul_nonneg (show 0 ≤ -x by grind) (show 0 ≤ -x by grind); grind
theorem sq_le {x y : Rat} (hy : 0 ≤ y) (h : x * x ≤ y * y) : x ≤ y := by
 rcases (show x ≤ y ∨ y < x by grind) with a | a
 ·exact a
 ·have b := Rat.mul_lt_mul_of_pos_left a (show 0 < x by grind)
  have c := Rat.mul_le_mul_of_nonneg_right (show y ≤ x by grind) hy
  grind
theorem turn_le {a b c s h δ : Rat} (hδ : 0 ≤ δ) (hδ1 : δ ≤ 1) (h0 : 0 ≤ h) (h1 : h ≤ 1) (ab1 : a * a + b * b ≤ 1 + δ) (cs1 : c * c + s * s ≤ 1 + δ) (cl : 1 - h * h / 2 ≤ c) :
  (a * s + b * (c - 1)) * (a * s + b * (c - 1)) ≤ h * h + 3 * δ := by
 have i1 := sq_nn (a * (c - 1) - b * s)
 have i2 : s * s + (c - 1) * (c - 1) ≤ h * h + δ := by grind
 have i3 := sq_nn a; have i4 := sq_nn b
 have i5 : 0 ≤ s * s + (c - 1) * (c - 1) := by have := sq_nn s; have := sq_nn (c - 1); grind
 have i6 := mul_le2 (show 0 ≤ a * a + b * b by grind) (show 0 ≤ h * h + δ by have := sq_nn h; grind) ab1 i2
 have e : (a * s + b * (c - 1)) * (a * s + b * (c - 1)) + (a * (c - 1) - b * s) * (a * (c - 1) - b * s) = (a * a + b * b) * (s * s + (c - 1) * (c - 1)) := by grind
 have hh : h * h ≤ 1 := by have := mul_le2 h0 (show (0 : Rat) ≤ 1 by grind) h1 h1; grind
 have dd : δ * δ ≤ δ := by have := Rat.mul_le_mul_of_nonneg_left hδ1 hδ; grind
 have dh := Rat.mul_le_mul_of_nonneg_left hh hδ
 grind
theorem trig_lip {x y h : Nat → Rat} (bx : Rb x) (by_ : Rb y) (hh : ∀ n, 0 ≤ h n ∧ h n ≤ 1) (hd : ∀ n, y n - x n = h n ∨ y n - x n = -h n) : ∀ d : Rat, 0 < d → ∃ N, ∀ n, N ≤ n → (sn n (y n) - sn n (x n) ≤ h n + d ∧ sn n (x n) - sn n (y n) ≤ h n + d) ∧ (cs n (y n) - cs n (x n) ≤ h n + d ∧ cs n (x n) - cs n (y n) ≤ h n + d) := by
 intro d hdp
 have bh : Rb (fun n => y n - x n) := by
  have := by_.add bx.neg
  have e : (fun n => y n + -x n) = (fun n => y n - x n) := funext fun n => by grind
  rw [← e]; exact this
 obtain ⟨δ, hδ, hδ1, hδ2⟩ : ∃ δ : Rat, 0 < δ ∧ δ ≤ 1 ∧ 3 * δ ≤ (d / 2) * (d / 2) := by
  have p : 0 < (d / 2) * (d / 2) / 3 := by have := Rat.mul_pos (half2 hdp) (half2 hdp); grind
  rcases (show (d / 2) * (d / 2) / 3 ≤ 1 ∨ 1 ≤ (d / 2) * (d / 2) / 3 by grind) with a | a
  ·exact ⟨_, p, a, by grind⟩
  ·exact ⟨1, by grind, by grind, by grind⟩
 obtain ⟨N1, h1⟩ := circle bx δ hδ
 obtain ⟨N2, h2⟩ := circle bh δ hδ
 obtain ⟨N3, h3⟩ := (trig_add bx bh).1 (d / 2) (half2 hdp)
 obtain ⟨N4, h4⟩ := (trig_add bx bh).2 (d / 2) (half2 hdp)
 refine ⟨N1 + N2 + N3 + N4 + 4, fun n hn => ?_⟩
 have c1 := (h1 n (by omega)).1
 have c2 := (h2 n (by omega)).1
 have c3 := h3 n (by omega)
 have c4 := h4 n (by omega)
 dsimp only at c1 c2 c3 c4
 rw [show x n + (y n - x n) = y n by grind] at c3 c4
 obtain ⟨g0, g1⟩ := hh n
 have cl : 1 - h n * h n / 2 ≤ cs n (y n - x n) := by
  rcases hd n with a | a
  ·rw [a]; exact cs_low ⟨by grind, by grind⟩ n (by omega)
  ·rw [a, (cs_neg n (h n)).1]; exact cs_low ⟨by grind, by grind⟩ n (by omega)
 generalize cs n (y n - x n) = c at *
 generalize sn n (y n - x n) = s at *
 generalize cs n (x n) = a at *
 generalize sn n (x n) = b at *
 generalize h n = g at *
 have t1 := turn_le (a := a) (b := b) (c := c) (s := s) (Rat.le_of_lt hδ) hδ1 g0 g1 c1 c2 cl
 have t2 := turn_le (a := -b) (b := a) (c := c) (s := s) (Rat.le_of_lt hδ) hδ1 g0 g1 (by grind) c2 cl
 have gd : 0 ≤ g + d / 2 := by grind
 have big : g * g + 3 * δ ≤ (g + d / 2) * (g + d / 2) := by have := Rat.mul_nonneg g0 (show 0 ≤ d / 2 by grind); grind
 have r1 := sq_le gd (Rat.le_trans t1 big)
 have r2 := sq_le gd (x := -(a * s + b * (c - 1))) (by have := Rat.le_trans t1 big; grind)
 have r3 := sq_le gd (Rat.le_trans t2 big)
 have r4 := sq_le gd (x := -(-b * s + a * (c - 1))) (by have := Rat.le_trans t2 big; grind)
 refine ⟨⟨by grind, by grind⟩, by grind, by grind⟩
end Go.Proofs.YtjlbngjeekdfcaaGreatDoor.MX
