/-
 the balls of elem, step by step, and what they hold.
-/
import Derived.Test.YtjlbngjeekdfcaaGreatDoorMhol
namespace Go.Proofs.YtjlbngjeekdfcaaGreatDoor.MX
variable {K M X Y c e t x y ℓ : Int} {n q w : Nat} {neg : Bool}
set_option linter.unusedVariables false
set_option linter.unusedSimpArgs false
open Rg
theorem tw_big (h : 40 ≤ w) : 1099511627776 ≤ twP w := by
 obtain ⟨k, rfl⟩ : ∃ k, w = 40 + k := ⟨w - 40, by omega⟩
 rw [tw_add]
 have a := tw_pos k
 have b : twP 40 = 1099511627776 := by decide
 rw [b]; omega
theorem ln_bd (h : w < 256) : 69 * twP w ≤ 100 * lnZ w ∧ 100 * lnA w ≤ 70 * twP w ∧ lnA w ≤ lnZ w ∧ lnZ w ≤ lnA w + 2 := by
 obtain ⟨h1, h2, h3, h4⟩ := ln_in w h
 have e : twP w * 2 ^ (300 - w) = (2 : Int) ^ 300 := by unfold twP; rw [ipow_add, show w + (300 - w) = 300 by omega]
 have p := two_pow_pos (300 - w)
 have k1 : 69 * (2 : Int) ^ 300 ≤ 100 * lnK := by decide +kernel
 have k2 : 100 * lnK ≤ 70 * (2 : Int) ^ 300 := by decide +kernel
 rw [← e] at k1 k2
 generalize (2 : Int) ^ (300 - w) = T at *
 refine ⟨?_, ?_, h3, by omega⟩
 ·have : (69 * twP w) * T ≤ (100 * lnZ w) * T := by
   have a : 69 * twP w * T = 69 * (twP w * T) := Int.mul_assoc _ _ _
   have b : 100 * lnZ w * T = 100 * (lnZ w * T) := Int.mul_assoc _ _ _
   omega
  exact Int.le_of_mul_le_mul_right this p
 ·have : (100 * lnA w) * T ≤ (70 * twP w) * T := by
   have a : 70 * twP w * T = 70 * (twP w * T) := Int.mul_assoc _ _ _
   have b : 100 * lnA w * T = 100 * (lnA w * T) := Int.mul_assoc _ _ _
   omega
  exact Int.le_of_mul_le_mul_right this p
theorem ln_hd (hw : w ≤ 4000) : Hd (lnA w) (lnZ w) w lam := fun d hd => by
 refine ⟨2 * ((w + 16) / 3 + 2), fun n hn => ?_⟩
 have h := ln_hold w n hn
 have hp : (0 : Rat) < (twP w : Int) := by exact_mod_cast tw_pos w
 rw [← nq_pt _ hw, ← nq_pt _ hw]
 have a : ptQ (lnA w) w ≤ lam n := dv_le hp (by grind)
 have b : lam n ≤ ptQ (lnZ w) w := le_dvQ hp (by grind)
 constructor <;> grind
def bLo (M e : Int) (w : Nat) : Int := flI M (e + w)
def bHi (M e : Int) (w : Nat) : Int := -flI (-M) (e + w)
theorem b_hd (he : -4000 ≤ e) (hw : w ≤ 4000) : Hd (bLo M e w) (bHi M e w) w (fun _ => nq M e) := hd_point he (by omega)
theorem b_le : bLo M e w ≤ bHi M e w ∧ bHi M e w ≤ bLo M e w + 1 := by
 unfold bLo bHi flI
 split
 ·have p := two_pow_pos (-(e + w)).toNat
  generalize (2 : Int) ^ (-(e + w)).toNat = T at *
  have a := Int.mul_ediv_add_emod M T
  have a2 := Int.emod_nonneg M (show T ≠ 0 by omega)
  have a3 := Int.emod_lt_of_pos M p
  have b := Int.mul_ediv_add_emod (-M) T
  have b2 := Int.emod_nonneg (-M) (show T ≠ 0 by omega)
  have b3 := Int.emod_lt_of_pos (-M) p
  generalize M / T = x at *
  generalize -M / T = y at *
  generalize M % T = r at *
  generalize -M % T = s at *
  have k : T * (x + y) = -(r + s) := by rw [Int.mul_add]; omega
  constructor
  ·rcases (show x + y ≤ 0 ∨ 1 ≤ x + y by omega) with c | c
   ·omega
   ·have := Int.mul_le_mul_of_nonneg_left c (Int.le_of_lt p); omega
  ·rcases (show -1 ≤ x + y ∨ x + y ≤ -2 by omega) with c | c
   ·omega
   ·have := Int.mul_le_mul_of_nonneg_left c (Int.le_of_lt p); omega
 ·rw [Int.neg_mul]; omega
theorem b_bd (he : -4000 ≤ e) (hw : w ≤ 4000) (h : -nq c 0 ≤ nq M e ∧ nq M e ≤ nq c 0) : -(c * twP w) - 1 ≤ bLo M e w ∧ bLo M e w ≤ c * twP w := by
 have p : nq c 0 = nq (c * twP w) (-(w : Int)) := by
  refine T4_can ?_
  rw [nq_T, nq_T]; unfold vd twP
  rw [Int.mul_assoc, ipow_add, show w + (-(w : Int) + 4000).toNat = ((0 : Int) + 4000).toNat by omega]
 rw [p, ← nq_neg] at h
 have lo : bLo M e w ≤ c * twP w := by
  have a := fl_low (X := M) (e := e) (q := w) he (by omega)
  have b := Rat.le_trans a h.2
  rw [nq_le, vd_le] at b; exact b
 have hi : -(c * twP w) ≤ bHi M e w := by
  have a := fl_high (X := M) (e := e) (q := w) he (by omega)
  have b := Rat.le_trans h.1 a
  rw [nq_le, vd_le] at b; exact b
 have k := (b_le (M := M) (e := e) (w := w)).2
 omega
def xK (M e : Int) (w : Nat) : Int := if 0 ≤ bLo M e w then bLo M e w / lnZ w else bLo M e w / lnA w
def xR (M e : Int) (w : Nat) : Int := bLo M e w - (if 0 ≤ bLo M e w then xK M e w * lnZ w else xK M e w * lnA w)
def xS (M e : Int) (w : Nat) : Int := bHi M e w - (if 0 ≤ bLo M e w then xK M e w * lnA w else xK M e w * lnZ w)
theorem xR_ok (hw : 40 ≤ w ∧ w < 256) (he : -4000 ≤ e) (h : -nq 64 0 ≤ nq M e ∧ nq M e ≤ nq 64 0) : 0 ≤ xR M e w ∧ xR M e w ≤ xS M e w ∧ xS M e w ≤ twP w ∧ -100 ≤ xK M e w ∧ xK M e w ≤ 100 ∧ (0 ≤ xK M e w ↔ 0 ≤ bLo M e w) := by
 obtain ⟨l1, l2, l3, l4⟩ := ln_bd hw.2
 have P := tw_big hw.1
 have b1 := b_le (M := M) (e := e) (w := w)
 have b2 := b_bd (w := w) he (by omega) h
 unfold xR xS xK
 generalize bLo M e w = X at *
 generalize bHi M e w = Y at *
 generalize lnA w = A at *
 generalize lnZ w = Z at *
 generalize twP w = T at *
 split
 ·rename_i h0
  have d := Int.mul_ediv_add_emod X Z
  have d2 := Int.emod_nonneg X (show Z ≠ 0 by omega)
  have d3 := Int.emod_lt_of_pos X (show 0 < Z by omega)
  have k0 : 0 ≤ X / Z := Int.ediv_nonneg h0 (by omega)
  generalize X / Z = K at *
  generalize X % Z = r at *
  have k1 : K ≤ 100 := by
   rcases (show K ≤ 100 ∨ 101 ≤ K by omega) with c | c
   ·exact c
   ·have := Int.mul_le_mul_of_nonneg_left c (show 0 ≤ Z by omega); omega
  have e1 : K * Z = Z * K := Int.mul_comm _ _
  have m := Int.mul_le_mul_of_nonneg_left l3 k0
  have m2 := Int.mul_le_mul_of_nonneg_left l4 k0
  have m3 : K * (A + 2) = K * A + 2 * K := by rw [Int.mul_add]; omega
  refine ⟨by omega, by omega, by omega, by omega, by omega, by constructor <;> intro _ <;> omega⟩
 ·rename_i h0
  have d := Int.mul_ediv_add_emod X A
  have d2 := Int.emod_nonneg X (show A ≠ 0 by omega)
  have d3 := Int.emod_lt_of_pos X (show 0 < A by omega)
  have k0 : X / A < 0 := Int.ediv_neg_of_neg_of_pos (by omega) (by omega)
  generalize X / A = K at *
  generalize X % A = r at *
  have k1 : -100 ≤ K := by
   rcases (show -100 ≤ K ∨ K ≤ -101 by omega) with c | c
   ·exact c
   ·have := Int.mul_le_mul_of_nonneg_left c (show 0 ≤ A by omega); omega
  have e1 : K * A = A * K := Int.mul_comm _ _
  have m := Int.mul_le_mul_of_nonneg_left l3 (show 0 ≤ -K by omega)
  have m2 := Int.mul_le_mul_of_nonneg_left l4 (show 0 ≤ -K by omega)
  have m3 : -K * (A + 2) = -K * A + 2 * -K := by rw [Int.mul_add]; omega
  rw [Int.neg_mul, Int.neg_mul] at m m2
  rw [Int.neg_mul] at m3
  have m4 : -K * A = -(K * A) := Int.neg_mul _ _
  refine ⟨by omega, by omega, by omega, by omega, by omega, by constructor <;> intro _ <;> omega⟩
theorem x_hd (hw : 40 ≤ w ∧ w < 256) (he : -4000 ≤ e) (h : -nq 64 0 ≤ nq M e ∧ nq M e ≤ nq 64 0) (n : Nat) (hn : 1 ≤ n) : Hd (rwLo 0 (xR M e w) w n) (rwHi 0 (xS M e w) w n) w (fun m => E m (nq M e - xK M e w * lam m)) := by
 obtain ⟨r0, r1, r2, k1, k2, k3⟩ := xR_ok hw he h
 refine Hd.exp (by omega) r0 r1 r2 hn ?_ (exp_val (nq M e) (by omega)).1
 have hx := b_hd (M := M) (e := e) (w := w) he (by omega)
 have hl := ln_hd (w := w) (by omega)
 by_cases h0 : 0 ≤ bLo M e w
 ·have := hx.sub (hl.timesp (K := xK M e w) (k3.2 h0))
  have e1 : xR M e w = bLo M e w - lnZ w * xK M e w := by unfold xR; rw [if_pos h0, Int.mul_comm]
  have e2 : xS M e w = bHi M e w - lnA w * xK M e w := by unfold xS; rw [if_pos h0, Int.mul_comm]
  rw [e1, e2]
  have e3 : (fun n => nq M e - lam n * (xK M e w : Rat)) = (fun n => nq M e - xK M e w * lam n) := funext fun n => by grind
  rw [e3] at this; exact this
 ·have := hx.sub (hl.timesn (K := xK M e w) (by omega))
  have e1 : xR M e w = bLo M e w - lnA w * xK M e w := by unfold xR; rw [if_neg h0, Int.mul_comm]
  have e2 : xS M e w = bHi M e w - lnZ w * xK M e w := by unfold xS; rw [if_neg h0, Int.mul_comm]
  rw [e1, e2]
  have e3 : (fun n => nq M e - lam n * (xK M e w : Rat)) = (fun n => nq M e - xK M e w * lam n) := funext fun n => by grind
  rw [e3] at this; exact this
theorem exp_hd (hq : q < 216) (he : -4000 ≤ e) (h : -nq 64 0 ≤ nq M e ∧ nq M e ≤ nq 64 0) (n : Nat) (hn : 1 ≤ n) :
  Hd (flI (flI (rwLo 0 (xR M e (q + 40)) (q + 40) n) (-((q + 40 : Nat) : Int) + q)) (xK M e (q + 40))) (-flI (- -flI (-rwHi 0 (xS M e (q + 40)) (q + 40) n) (-((q + 40 : Nat) : Int) + q)) (xK M e (q + 40))) q (fun m => E m (nq M e)) := by
 have hw : 40 ≤ q + 40 ∧ q + 40 < 256 := by omega
 obtain ⟨_, _, _, k1, k2, _⟩ := xR_ok hw he h
 have a := (x_hd hw he h n hn).recast (p := q) (by omega) (by omega)
 have b := a.shift (k := xK M e (q + 40)) (by omega) (by omega)
 exact b.rr (exp_val (nq M e) (by omega)).2
theorem Hd.le {q : Int} {V : Nat → Rat} (h : Hd X Y q V) : X ≤ Y := by
 have := h.met h
 rwa [vd_le] at this
theorem nq_tw : nq c 0 = nq (c * twP w) (-(w : Int)) ∨ 4000 < w := by
 rcases (show w ≤ 4000 ∨ 4000 < w by omega) with h | h
 ·left
  refine T4_can ?_
  rw [nq_T, nq_T]; unfold vd twP
  rw [Int.mul_assoc, ipow_add, show w + (-(w : Int) + 4000).toNat = ((0 : Int) + 4000).toNat by omega]
 ·exact .inr h
theorem nq_one (c : Int) : nq c 0 = c := by
 have h := nq_muli 1 c 0
 have e := p2_nat 0
 unfold p2 at e
 rw [show (((0 : Nat) : Int)) = 0 from rfl] at e
 rw [Int.one_mul, e, Rat.pow_zero, Rat.one_mul] at h
 exact h
theorem b_low (he : -4000 ≤ e) (hw : w ≤ 4000) (h : (c : Rat) ≤ nq M e) : c * twP w ≤ bLo M e w := by
 rw [← nq_one] at h
 rcases nq_tw (c := c) (w := w) with k | k
 ·rw [k, nq_le] at h
  exact (le_flI he (by omega)).2 h
 ·omega
theorem b_high (he : -4000 ≤ e) (hw : w ≤ 4000) (h : nq M e ≤ (c : Rat)) : bHi M e w ≤ c * twP w := by
 rw [← nq_one] at h
 rcases nq_tw (c := c) (w := w) with k | k
 ·rw [k, nq_le] at h
  exact (ceI_le he (by omega)).2 h
 ·omega
theorem tw_even (h : 1 ≤ w) : ∃ k, 0 < k ∧ twP w = 2 * k := by
 obtain ⟨j, rfl⟩ : ∃ j, w = j + 1 := ⟨w - 1, by omega⟩
 exact ⟨twP j, tw_pos j, by rw [tw_add]; have : twP 1 = 2 := by decide
                            rw [this]; omega⟩
def yR (M e : Int) (w : Nat) : Int := mn4 (fun x y => flI (x * y) (-(w : Int))) (bLo M e w) (bHi M e w) (lnA w) (lnZ w)
def yS (M e : Int) (w : Nat) : Int := mx4 (fun x y => -flI (-(x * y)) (-(w : Int))) (bLo M e w) (bHi M e w) (lnA w) (lnZ w)
theorem flw (h : 1 ≤ w) : flI X (-(w : Int)) = X / twP w := by
 unfold flI twP; rw [if_pos (by omega), show (-(-(w : Int))).toNat = w by omega]
theorem y_ok (hw : 40 ≤ w ∧ w < 256) (he : -4000 ≤ e) (h : 0 ≤ nq M e ∧ nq M e ≤ 1) : 0 ≤ yR M e w ∧ yS M e w ≤ twP w := by
 obtain ⟨l1, l2, l3, l4⟩ := ln_bd hw.2
 have P := tw_big hw.1
 have b0 := b_low (M := M) (e := e) (w := w) (c := 0) he (by omega) h.1
 have b1 := b_high (M := M) (e := e) (w := w) (c := 1) he (by omega) h.2
 have b2 := (b_le (M := M) (e := e) (w := w)).1
 unfold yR yS
 have lo : ∀ x y : Int, 0 ≤ x → 0 ≤ y → 0 ≤ flI (x * y) (-(w : Int)) := fun x y hx hy => by
  rw [flw (by omega)]; exact Int.ediv_nonneg (Int.mul_nonneg hx hy) (by omega)
 have hi : ∀ x y : Int, 0 ≤ x → x ≤ twP w → 0 ≤ y → y ≤ twP w → -flI (-(x * y)) (-(w : Int)) ≤ twP w := fun x y hx hx1 hy hy1 => by
  rw [flw (by omega), up_le (by omega)]
  have a := Int.mul_le_mul_of_nonneg_right hx1 hy
  have b := Int.mul_le_mul_of_nonneg_left hy1 (show 0 ≤ twP w by omega)
  omega
 rw [Int.one_mul] at b1
 constructor
 ·have := lo _ _ (show 0 ≤ bLo M e w by omega) (show 0 ≤ lnA w by omega)
  have := lo _ _ (show 0 ≤ bLo M e w by omega) (show 0 ≤ lnZ w by omega)
  have := lo _ _ (show 0 ≤ bHi M e w by omega) (show 0 ≤ lnA w by omega)
  have := lo _ _ (show 0 ≤ bHi M e w by omega) (show 0 ≤ lnZ w by omega)
  unfold mn4; dsimp only; omega
 ·have := hi _ _ (show 0 ≤ bLo M e w by omega) (by omega) (show 0 ≤ lnA w by omega) (by omega)
  have := hi _ _ (show 0 ≤ bLo M e w by omega) (by omega) (show 0 ≤ lnZ w by omega) (by omega)
  have := hi _ _ (show 0 ≤ bHi M e w by omega) (by omega) (show 0 ≤ lnA w by omega) (by omega)
  have := hi _ _ (show 0 ≤ bHi M e w by omega) (by omega) (show 0 ≤ lnZ w by omega) (by omega)
  unfold mx4; dsimp only; omega
theorem y_hd0 (hw : 40 ≤ w ∧ w < 256) (he : -4000 ≤ e) : Hd (yR M e w) (yS M e w) w (fun m => nq M e * lam m) :=
 Hd.mul (by omega) (b_le (M := M) (e := e)).1 (ln_bd hw.2).2.2.1 (b_hd he (by omega)) (ln_hd (by omega)) (Rb.const _)
theorem y_hd (hw : 40 ≤ w ∧ w < 256) (he : -4000 ≤ e) (h : 0 ≤ nq M e ∧ nq M e ≤ 1) (n : Nat) (hn : 1 ≤ n) : Hd (rwLo 0 (yR M e w) w n) (rwHi 0 (yS M e w) w n) w (fun m => E m (nq M e * lam m)) := by
 obtain ⟨r0, r1⟩ := y_ok hw he h
 have hd := y_hd0 (M := M) hw he
 exact Hd.exp (by omega) r0 hd.le r1 hn hd (lam_rb.mulc _)
theorem exp2_hd (hq : q < 216) (he : -4000 ≤ e) (hK : -2000 ≤ K ∧ K ≤ 2000) (h : 0 ≤ nq M e ∧ nq M e ≤ 1) (n : Nat) (hn : 1 ≤ n) :
  Hd (flI (flI (rwLo 0 (yR M e (q + 40)) (q + 40) n) (-((q + 40 : Nat) : Int) + q)) K) (-flI (- -flI (-rwHi 0 (yS M e (q + 40)) (q + 40) n) (-((q + 40 : Nat) : Int) + q)) K) q (fun m => p2 K * E m (nq M e * lam m)) := by
 have a := (y_hd (w := q + 40) (by omega) he h n hn).recast (p := q) (by omega) (by omega)
 exact a.shift (k := K) (by omega) hK
theorem Hd.times {q : Int} {V : Nat → Rat} (h : Hd X Y q V) : Hd (min (X * K) (Y * K)) (max (X * K) (Y * K)) q (fun n => V n * K) := by
 have l := h.le
 rcases (show 0 ≤ K ∨ K ≤ 0 by omega) with k | k
 ·have m := Int.mul_le_mul_of_nonneg_right l k
  rw [Int.min_eq_left m, Int.max_eq_right m]; exact h.timesp k
 ·have m := Int.mul_le_mul_of_nonpos_right l k
  rw [Int.min_eq_right m, Int.max_eq_left m]; exact h.timesn k
def uR (M e : Int) (w : Nat) : Int := mn4 (fun x y => fdI (x * 2 ^ (w : Int).toNat) y) (bLo M e w - twP w) (bHi M e w - twP w) (bLo M e w + twP w) (bHi M e w + twP w)
def uS (M e : Int) (w : Nat) : Int := mx4 (fun x y => cdI (x * 2 ^ (w : Int).toNat) y) (bLo M e w - twP w) (bHi M e w - twP w) (bLo M e w + twP w) (bHi M e w + twP w)
theorem cd_le {z : Int} (hy : 0 < y) (h : x ≤ z * y) : cdI x y ≤ z := by
 unfold cdI fdI; rw [if_neg (by omega)]; exact (up_le hy).2 h
theorem fd_nn (hy : 0 < y) (h : 0 ≤ x) : 0 ≤ fdI x y := by
 unfold fdI; rw [if_neg (by omega)]; exact Int.ediv_nonneg h (by omega)
theorem u_ok (hw : 40 ≤ w ∧ w ≤ 1500) (he : -4000 ≤ e) (h : 1 ≤ nq M e ∧ nq M e ≤ 2) : 0 ≤ uR M e w ∧ 2 * uS M e w ≤ twP w ∧ Hd (uR M e w) (uS M e w) w (fun _ => um (nq M e)) := by
 have P := tw_big hw.1
 have b0 := b_low (M := M) (e := e) (w := w) (c := 1) he (by omega) h.1
 have b1 := b_high (M := M) (e := e) (w := w) (c := 2) he (by omega) h.2
 have b2 := (b_le (M := M) (e := e) (w := w)).1
 rw [Int.one_mul] at b0
 obtain ⟨k, k0, ke⟩ := tw_even (w := w) (by omega)
 have e2 : (2 : Int) ^ (w : Int).toNat = twP w := by unfold twP; rw [Int.toNat_natCast]
 have lo : ∀ x y : Int, 0 ≤ x → 0 < y → 0 ≤ fdI (x * 2 ^ (w : Int).toNat) y := fun x y hx hy => fd_nn hy (Int.mul_nonneg hx (by rw [e2]; omega))
 have hi : ∀ x y : Int, 0 ≤ x → x ≤ twP w → 2 * twP w ≤ y → cdI (x * 2 ^ (w : Int).toNat) y ≤ k := fun x y hx hx1 hy => by
  refine cd_le (by omega) ?_
  rw [e2]
  have a := Int.mul_le_mul_of_nonneg_right hx1 (show 0 ≤ twP w by omega)
  have b := Int.mul_le_mul_of_nonneg_left hy (show 0 ≤ k by omega)
  have c : k * (2 * twP w) = twP w * twP w := by
   rw [← Int.mul_assoc, show k * 2 = twP w by omega]
  omega
 refine ⟨?_, ?_, ?_⟩
 ·unfold uR
  have := lo (bLo M e w - twP w) (bLo M e w + twP w) (by omega) (by omega)
  have := lo (bLo M e w - twP w) (bHi M e w + twP w) (by omega) (by omega)
  have := lo (bHi M e w - twP w) (bLo M e w + twP w) (by omega) (by omega)
  have := lo (bHi M e w - twP w) (bHi M e w + twP w) (by omega) (by omega)
  unfold mn4; dsimp only; omega
 ·unfold uS
  have := hi (bLo M e w - twP w) (bLo M e w + twP w) (by omega) (by omega) (by omega)
  have := hi (bLo M e w - twP w) (bHi M e w + twP w) (by omega) (by omega) (by omega)
  have := hi (bHi M e w - twP w) (bLo M e w + twP w) (by omega) (by omega) (by omega)
  have := hi (bHi M e w - twP w) (bHi M e w + twP w) (by omega) (by omega) (by omega)
  unfold mx4; dsimp only; omega
 ·have hx := b_hd (M := M) (e := e) (w := w) he (by omega)
  have ho : Hd (twP w) (twP w) w (fun _ => 1) := by
   have e1 : nq (twP w) (-(w : Int)) = 1 := by
    rw [← nq_pt _ (show w ≤ 4000 by omega)]
    have hp : (0 : Rat) < (twP w : Int) := by exact_mod_cast tw_pos w
    unfold ptQ; rw [Rat.div_def]; exact Rat.mul_inv_cancel _ (by grind)
   exact Hd.of_const (by rw [e1]; exact ⟨Rat.le_refl, Rat.le_refl⟩)
  have hs := hx.sub ho
  have ha := hx.add ho
  have ue := (um_in h.1 h.2).2.2
  exact Hd.div (by omega) (by omega) (by omega) (by omega) hs ha 0 (fun n _ => ue)
def gR (M e : Int) (ℓ : Int) (w n : Nat) : Int := rwLo 1 (uR M e w) w n * 2 + min (lnA w * ℓ) (lnZ w * ℓ)
def gS (M e : Int) (ℓ : Int) (w n : Nat) : Int := rwHi 1 (uS M e w) w n * 2 + max (lnA w * ℓ) (lnZ w * ℓ)
theorem s_hd (hw : 40 ≤ w ∧ w ≤ 1500) (he : -4000 ≤ e) (h : 1 ≤ nq M e ∧ nq M e ≤ 2) (n : Nat) : Hd (rwLo 1 (uR M e w) w n) (rwHi 1 (uS M e w) w n) w (fun m => al m (um (nq M e)) / 2) ∧ Hd (rwLo 1 (uR M e w) w n * 2) (rwHi 1 (uS M e w) w n * 2) w (fun m => al m (um (nq M e))) := by
 obtain ⟨u0, u1, hu⟩ := u_ok hw he h
 have a := hu.atanh (n := n) (by omega) u0 hu.le u1
 have b := a.timesp (K := 2) (by omega)
 have e3 : (fun m => al m (um (nq M e)) / 2 * ((2 : Int) : Rat)) = (fun m => al m (um (nq M e))) := funext fun m => by
  have : ((2 : Int) : Rat) = 2 := rfl
  rw [this]; grind
 rw [e3] at b
 exact ⟨a, b⟩
theorem log_hd (hq : q ≤ 1400) (he : -4000 ≤ e) (h : 1 ≤ nq M e ∧ nq M e ≤ 2) (n : Nat) :
  Hd (flI (gR M e ℓ (q + 40) n) (-((q + 40 : Nat) : Int) + q)) (-flI (-gS M e ℓ (q + 40) n) (-((q + 40 : Nat) : Int) + q)) q (fun m => al m (um (nq M e)) + ℓ * lam m) := by
 have s := (s_hd (w := q + 40) (by omega) he h n).2
 have l := (ln_hd (w := q + 40) (by omega)).times (K := ℓ)
 have a := (s.add l).recast (p := q) (by omega) (by omega)
 have e3 : (fun m => al m (um (nq M e)) + lam m * (ℓ : Rat)) = (fun m => al m (um (nq M e)) + ℓ * lam m) := funext fun m => by grind
 rw [e3] at a; exact a
def hR (M e : Int) (ℓ : Int) (w n : Nat) : Int := mn4 (fun x y => fdI (x * 2 ^ (w : Int).toNat) y) (rwLo 1 (uR M e w) w n * 2) (rwHi 1 (uS M e w) w n * 2) (lnA w) (lnZ w) + twP w * ℓ
def hS (M e : Int) (ℓ : Int) (w n : Nat) : Int := mx4 (fun x y => cdI (x * 2 ^ (w : Int).toNat) y) (rwLo 1 (uR M e w) w n * 2) (rwHi 1 (uS M e w) w n * 2) (lnA w) (lnZ w) + twP w * ℓ
theorem lam_pos (n : Nat) (hn : 2 ≤ n) : 2 / 3 ≤ lam n := by
 have h := S_mono (wt_nn at2_nn (show (0 : Rat) ≤ 1 / 3 by grind)) hn
 refine Rat.le_trans ?_ h
 show (2 / 3 : Rat) ≤ 0 + at2 0 * 1 + at2 1 * (1 * (1 / 3))
 rw [show at2 0 = 0 from rfl, show at2 1 = 2 / ((1 : Nat) : Rat) from rfl, show ((1 : Nat) : Rat) = 1 from rfl]
 grind
theorem log2_hd (hq : q < 216) (he : -4000 ≤ e) (h : 1 ≤ nq M e ∧ nq M e ≤ 2) (n : Nat) :
  Hd (flI (hR M e ℓ (q + 40) n) (-((q + 40 : Nat) : Int) + q)) (-flI (-hS M e ℓ (q + 40) n) (-((q + 40 : Nat) : Int) + q)) q (fun m => al m (um (nq M e)) / lam m + ℓ) := by
 have s := (s_hd (w := q + 40) (by omega) he h n).2
 obtain ⟨l1, l2, l3, l4⟩ := ln_bd (w := q + 40) (by omega)
 have P := tw_big (w := q + 40) (by omega)
 have d := Hd.div (Z := fun m => al m (um (nq M e)) / lam m) (by omega) s.le l3 (by omega) s (ln_hd (w := q + 40) (by omega)) 2 (fun m hm => by
  have := lam_pos m hm
  show al m (um (nq M e)) / lam m * lam m = _
  rw [Rat.div_def, Rat.mul_assoc, Rat.inv_mul_cancel _ (by grind), Rat.mul_one])
 have ho : Hd (twP (q + 40) * ℓ) (twP (q + 40) * ℓ) ((q + 40 : Nat) : Int) (fun _ => (ℓ : Rat)) := by
  have e1 : nq (twP (q + 40) * ℓ) (-((q + 40 : Nat) : Int)) = ℓ := by
   rw [nq_muli, ← nq_pt _ (show q + 40 ≤ 4000 by omega)]
   have hp : (0 : Rat) < (twP (q + 40) : Int) := by exact_mod_cast tw_pos (q + 40)
   unfold ptQ; rw [Rat.div_def, Rat.mul_inv_cancel _ (by grind), Rat.one_mul]
  exact Hd.of_const (by rw [e1]; exact ⟨Rat.le_refl, Rat.le_refl⟩)
 exact (d.add ho).recast (p := q) (by omega) (by omega)
def tA (w : Nat) : Int := flI (piA w) (-1)
def tZ (w : Nat) : Int := -flI (-piZ w) (-1)
theorem pi_bd (h : w < 256) : 31 * twP w ≤ 10 * piZ w ∧ 10 * piA w ≤ 32 * twP w ∧ piA w ≤ piZ w ∧ piZ w ≤ piA w + 2 := by
 obtain ⟨h1, h2, h3, h4⟩ := pi_in w h
 have e : twP w * 2 ^ (300 - w) = (2 : Int) ^ 300 := by unfold twP; rw [ipow_add, show w + (300 - w) = 300 by omega]
 have p := two_pow_pos (300 - w)
 have k1 : 31 * (2 : Int) ^ 300 ≤ 10 * piK := by decide +kernel
 have k2 : 10 * piK ≤ 32 * (2 : Int) ^ 300 := by decide +kernel
 rw [← e] at k1 k2
 generalize (2 : Int) ^ (300 - w) = T at *
 refine ⟨?_, ?_, h3, by omega⟩
 ·have : (31 * twP w) * T ≤ (10 * piZ w) * T := by
   have a : 31 * twP w * T = 31 * (twP w * T) := Int.mul_assoc _ _ _
   have b : 10 * piZ w * T = 10 * (piZ w * T) := Int.mul_assoc _ _ _
   omega
  exact Int.le_of_mul_le_mul_right this p
 ·have : (10 * piA w) * T ≤ (32 * twP w) * T := by
   have a : 32 * twP w * T = 32 * (twP w * T) := Int.mul_assoc _ _ _
   have b : 10 * piA w * T = 10 * (piA w * T) := Int.mul_assoc _ _ _
   omega
  exact Int.le_of_mul_le_mul_right this p
theorem t_bd (h : 40 ≤ w ∧ w < 256) : 15 * twP w ≤ 10 * tZ w ∧ 10 * tZ w ≤ 17 * twP w ∧ tA w ≤ tZ w ∧ tZ w ≤ tA w + 2 := by
 obtain ⟨p1, p2, p3, p4⟩ := pi_bd h.2
 have P := tw_big h.1
 have a : tA w = piA w / 2 := by unfold tA flI; rw [if_pos (by omega)]; rfl
 have b : tZ w = -(-piZ w / 2) := by unfold tZ flI; rw [if_pos (by omega)]; rfl
 rw [a, b]; omega
theorem t_hd (hw : w ≤ 1400) : Hd (tA w) (tZ w) w eta := by
 have hp : Hd (piA w) (piZ w) w (fun n => 2 * eta n) := fun d hd => by
  refine ⟨4 * ((w + 16) / 9 + 2) + 2, fun n hn => ?_⟩
  have h := pi_hold w n hn
  have hp : (0 : Rat) < (twP w : Int) := by exact_mod_cast tw_pos w
  rw [← nq_pt _ (show w ≤ 4000 by omega), ← nq_pt _ (show w ≤ 4000 by omega)]
  have a : ptQ (piA w) w ≤ 2 * eta n := dv_le hp (by grind)
  have b : 2 * eta n ≤ ptQ (piZ w) w := le_dvQ hp (by grind)
  dsimp only
  constructor <;> grind
 have s := hp.shift (k := -1) (by omega) (by omega)
 refine s.rr (Rr.of_eq fun n => ?_)
 have e := p2_neg (k := 1) (by omega)
 rw [Rat.pow_succ, Rat.pow_zero, Rat.one_mul] at e
 show p2 (-1) * (2 * eta n) = eta n
 have e' : 2 * p2 (-1) = 1 := e
 grind
def wK (M e : Int) (w : Nat) : Int := bLo M e w / tZ w
def wR (M e : Int) (w : Nat) : Int := bLo M e w - tZ w * wK M e w
def wS (M e : Int) (w : Nat) : Int := bHi M e w - tA w * wK M e w
theorem w_ok (hw : 40 ≤ w ∧ w < 256) (he : -4000 ≤ e) (h : 0 ≤ nq M e ∧ nq M e ≤ nq 64 0) : 0 ≤ wR M e w ∧ wR M e w ≤ 2 * twP w ∧ wS M e w - wR M e w ≤ twP w ∧ 0 ≤ wK M e w ∧ wK M e w ≤ 50 ∧ Hd (wR M e w) (wS M e w) w (fun n => nq M e - (wK M e w).toNat * eta n) ∧ 0 ≤ bLo M e w := by
 obtain ⟨l1, l2, l3, l4⟩ := t_bd hw
 have P := tw_big hw.1
 have b1 := b_le (M := M) (e := e) (w := w)
 have b0 := b_low (M := M) (e := e) (w := w) (c := 0) he (by omega) h.1
 have b2 := b_bd (w := w) he (by omega) (show -nq 64 0 ≤ nq M e ∧ nq M e ≤ nq 64 0 from ⟨by rw [nq_one] at *; have := h.1; have e64 : ((64 : Int) : Rat) = 64 := rfl; grind, h.2⟩)
 have hx := b_hd (M := M) (e := e) (w := w) he (by omega)
 have ht := t_hd (w := w) (by omega)
 rw [Int.zero_mul] at b0
 have kn : 0 ≤ wK M e w := Int.ediv_nonneg b0 (by omega)
 have d := Int.mul_ediv_add_emod (bLo M e w) (tZ w)
 have d2 := Int.emod_nonneg (bLo M e w) (show tZ w ≠ 0 by omega)
 have d3 := Int.emod_lt_of_pos (bLo M e w) (show 0 < tZ w by omega)
 have ek : bLo M e w / tZ w = wK M e w := rfl
 rw [ek] at d
 have k1 : wK M e w ≤ 50 := by
  rcases (show wK M e w ≤ 50 ∨ 51 ≤ wK M e w by omega) with c | c
  ·exact c
  ·have := Int.mul_le_mul_of_nonneg_left c (show 0 ≤ tZ w by omega); omega
 have m := Int.mul_le_mul_of_nonneg_right l3 kn
 have m2 := Int.mul_le_mul_of_nonneg_right l4 kn
 have m3 : (tA w + 2) * wK M e w = tA w * wK M e w + 2 * wK M e w := Int.add_mul _ _ _
 refine ⟨by unfold wR; omega, by unfold wR; omega, by unfold wR wS; omega, kn, k1, ?_, b0⟩
 have s := hx.sub (ht.timesp (K := wK M e w) kn)
 have e3 : (fun n => nq M e - eta n * (wK M e w : Rat)) = (fun n => nq M e - ((wK M e w).toNat : Rat) * eta n) := funext fun n => by
  have : ((wK M e w : Int) : Rat) = ((wK M e w).toNat : Rat) := by
   have h2 : (((wK M e w).toNat : Nat) : Int) = wK M e w := by omega
   have : ((((wK M e w).toNat : Nat) : Int) : Rat) = ((wK M e w).toNat : Rat) := rfl
   rw [← this, h2]
  rw [this]; grind
 rw [e3] at s; exact s
theorem ceil_step (b : Int) {c : Int} (hc : 0 < c) : -(-b / c) * c ≤ b + c := by
 have d := Int.mul_ediv_add_emod (-b) c
 have d2 := Int.emod_nonneg (-b) (show c ≠ 0 by omega)
 have d3 := Int.emod_lt_of_pos (-b) hc
 have e : -(-b / c) * c = -(c * (-b / c)) := by rw [Int.neg_mul, Int.mul_comm]
 omega
theorem floor_step (b : Int) {c : Int} (hc : 0 < c) : b ≤ b / c * c + c := by
 have d := Int.mul_ediv_add_emod b c
 have d3 := Int.emod_lt_of_pos b hc
 have e : b / c * c = c * (b / c) := Int.mul_comm _ _
 omega
theorem step_up {V' V a P x e e' c c' : Rat} (ha : 0 < a) (hP : 0 < P) (h : V' * (a * (P * P)) ≤ V * (x * P * (x * P)) + a * (P * P)) (hV : V ≤ P * e + c) (he : e' * a = e * (x * x)) (hc : c * (x * x) + a ≤ c' * a) : V' ≤ P * e' + c' := by
 have hPP := Rat.mul_pos hP hP
 have xx := sq_nn x
 have h1 : V' * a ≤ V * (x * x) + a := by
  have k : (P * P) * (V' * a) ≤ (P * P) * (V * (x * x) + a) := by grind
  rcases (show V' * a ≤ V * (x * x) + a ∨ V * (x * x) + a < V' * a by grind) with s | s
  ·exact s
  ·have := Rat.mul_lt_mul_of_pos_left s hPP; grind
 have h2 := Rat.mul_le_mul_of_nonneg_right hV xx
 have h3 : V' * a ≤ (P * e' + c') * a := by
  have : (P * e' + c') * a = P * (e' * a) + c' * a := by grind
  rw [this, he]; grind
 rcases (show V' ≤ P * e' + c' ∨ P * e' + c' < V' by grind) with s | s
 ·exact s
 ·have := Rat.mul_lt_mul_of_pos_right s ha; grind
theorem step_dn {V' V a P x e e' c c' : Rat} (ha : 0 < a) (hP : 0 < P) (h : V * (x * P * (x * P)) ≤ V' * (a * (P * P)) + a * (P * P)) (hV : P * e ≤ V + c) (he : e' * a = e * (x * x)) (hc : c * (x * x) + a ≤ c' * a) : P * e' ≤ V' + c' := by
 have := step_up (V' := -V') (V := -V) (e := -e) (e' := -e') (c := c) (c' := c') (x := x) (P := P) ha hP (by grind) (by grind) (by grind) hc
 grind
theorem es_mul (x : Rat) (k : Nat) : esQ x (k + 1) * ((2 * (k : Rat) + 2) * (2 * k + 3)) = esQ x k * (x * x) := by
 have hk := c0Q k
 rw [es_succ, Rat.div_def, Rat.div_def]
 have a : (2 * (k : Rat) + 2)⁻¹ * (2 * k + 2) = 1 := Rat.inv_mul_cancel _ (by grind)
 have b : (2 * (k : Rat) + 3)⁻¹ * (2 * k + 3) = 1 := Rat.inv_mul_cancel _ (by grind)
 generalize (2 * (k : Rat) + 2)⁻¹ = u at *
 generalize (2 * (k : Rat) + 3)⁻¹ = v at *
 have : esQ x k * (x * x) * u * v * ((2 * (k : Rat) + 2) * (2 * k + 3)) = esQ x k * (x * x) * (u * (2 * k + 2)) * (v * (2 * k + 3)) := by grind
 rw [this, a, b]; grind
theorem ec_mul (x : Rat) (k : Nat) : ecQ x (k + 1) * ((2 * (k : Rat) + 1) * (2 * k + 2)) = ecQ x k * (x * x) := by
 have hk := c0Q k
 show ecQ x k * (x * x) / (2 * k + 1) / (2 * k + 2) * _ = _
 rw [Rat.div_def, Rat.div_def]
 have a : (2 * (k : Rat) + 1)⁻¹ * (2 * k + 1) = 1 := Rat.inv_mul_cancel _ (by grind)
 have b : (2 * (k : Rat) + 2)⁻¹ * (2 * k + 2) = 1 := Rat.inv_mul_cancel _ (by grind)
 generalize (2 * (k : Rat) + 1)⁻¹ = u at *
 generalize (2 * (k : Rat) + 2)⁻¹ = v at *
 have : ecQ x k * (x * x) * u * v * ((2 * (k : Rat) + 1) * (2 * k + 2)) = ecQ x k * (x * x) * (u * (2 * k + 1)) * (v * (2 * k + 2)) := by grind
 rw [this, a, b]; grind
theorem sn_err (hx2 : ptQ t q * ptQ t q ≤ 4) : ∀ k, ((snV t q k : Int) : Rat) ≤ (twP q : Int) * esQ (ptQ t q) k + 3 ∧ (twP q : Int) * esQ (ptQ t q) k ≤ ((snU t q k : Int) : Rat) + 3
 | 0 => by
  have ht := pt_mul t q
  have e : esQ (ptQ t q) 0 = ptQ t q := by
   show 1 * ptQ t q / (2 * ((0 : Nat) : Rat) + 1) = _
   rw [show ((0 : Nat) : Rat) = 0 from rfl]; grind
  rw [e]
  show (t : Rat) ≤ _ ∧ _ ≤ (t : Rat) + 3
  constructor <;> grind
 | k + 1 => by
  obtain ⟨i1, i2⟩ := sn_err hx2 k
  have hk := c0Q k
  have hp : (0 : Rat) < (twP q : Int) := by exact_mod_cast tw_pos q
  have ht := pt_mul t q
  have d1 : ((snV t q (k + 1) : Int) : Rat) * ((2 * (k : Rat) + 2) * (2 * k + 3) * ((twP q : Int) * (twP q : Int))) ≤ (snV t q k : Int) * ((t : Rat) * t) + (2 * (k : Rat) + 2) * (2 * k + 3) * ((twP q : Int) * (twP q : Int)) := by
   have : snV t q (k + 1) * ((2 * (k : Int) + 2) * (2 * k + 3) * (twP q * twP q)) ≤ snV t q k * (t * t) + (2 * (k : Int) + 2) * (2 * k + 3) * (twP q * twP q) := ceil_step (snV t q k * (t * t)) (c := (2 * (k : Int) + 2) * (2 * k + 3) * (twP q * twP q)) (sn_pos q k)
   have h := Rat.intCast_le_intCast.2 this
   simp only [Rat.intCast_add, Rat.intCast_mul, Rat.intCast_ofNat, Rat.intCast_natCast] at h
   exact h
  have d2 : ((snU t q k : Int) : Rat) * ((t : Rat) * t) ≤ (snU t q (k + 1) : Int) * ((2 * (k : Rat) + 2) * (2 * k + 3) * ((twP q : Int) * (twP q : Int))) + (2 * (k : Rat) + 2) * (2 * k + 3) * ((twP q : Int) * (twP q : Int)) := by
   have : snU t q k * (t * t) ≤ snU t q (k + 1) * ((2 * (k : Int) + 2) * (2 * k + 3) * (twP q * twP q)) + (2 * (k : Int) + 2) * (2 * k + 3) * (twP q * twP q) := floor_step (snU t q k * (t * t)) (c := (2 * (k : Int) + 2) * (2 * k + 3) * (twP q * twP q)) (sn_pos q k)
   have h := Rat.intCast_le_intCast.2 this
   simp only [Rat.intCast_add, Rat.intCast_mul, Rat.intCast_ofNat, Rat.intCast_natCast] at h
   exact h
  rw [ht] at d1 d2
  have kk := Rat.mul_nonneg hk hk
  have ha : (0 : Rat) < (2 * (k : Rat) + 2) * (2 * k + 3) := by grind
  exact ⟨step_up ha hp d1 i1 (es_mul _ k) (by grind), step_dn ha hp d2 i2 (es_mul _ k) (by grind)⟩
theorem cs_err (hx2 : ptQ t q * ptQ t q ≤ 4) : ∀ k, ((csV t q k : Int) : Rat) ≤ (twP q : Int) * ecQ (ptQ t q) k + (if k = 0 then 0 else 3) ∧ (twP q : Int) * ecQ (ptQ t q) k ≤ ((csU t q k : Int) : Rat) + (if k = 0 then 0 else 3)
 | 0 => by
  show ((twP q : Int) : Rat) ≤ _ * 1 + (if (0 : Nat) = 0 then 0 else 3) ∧ _ * 1 ≤ ((twP q : Int) : Rat) + (if (0 : Nat) = 0 then 0 else 3)
  rw [if_pos rfl]
  constructor <;> grind
 | k + 1 => by
  obtain ⟨i1, i2⟩ := cs_err hx2 k
  have hk := c0Q k
  have hp : (0 : Rat) < (twP q : Int) := by exact_mod_cast tw_pos q
  have ht := pt_mul t q
  have d1 : ((csV t q (k + 1) : Int) : Rat) * ((2 * (k : Rat) + 1) * (2 * k + 2) * ((twP q : Int) * (twP q : Int))) ≤ (csV t q k : Int) * ((t : Rat) * t) + (2 * (k : Rat) + 1) * (2 * k + 2) * ((twP q : Int) * (twP q : Int)) := by
   have : csV t q (k + 1) * ((2 * (k : Int) + 1) * (2 * k + 2) * (twP q * twP q)) ≤ csV t q k * (t * t) + (2 * (k : Int) + 1) * (2 * k + 2) * (twP q * twP q) := ceil_step (csV t q k * (t * t)) (c := (2 * (k : Int) + 1) * (2 * k + 2) * (twP q * twP q)) (cs_pos q k)
   have h := Rat.intCast_le_intCast.2 this
   simp only [Rat.intCast_add, Rat.intCast_mul, Rat.intCast_ofNat, Rat.intCast_natCast] at h
   exact h
  have d2 : ((csU t q k : Int) : Rat) * ((t : Rat) * t) ≤ (csU t q (k + 1) : Int) * ((2 * (k : Rat) + 1) * (2 * k + 2) * ((twP q : Int) * (twP q : Int))) + (2 * (k : Rat) + 1) * (2 * k + 2) * ((twP q : Int) * (twP q : Int)) := by
   have : csU t q k * (t * t) ≤ csU t q (k + 1) * ((2 * (k : Int) + 1) * (2 * k + 2) * (twP q * twP q)) + (2 * (k : Int) + 1) * (2 * k + 2) * (twP q * twP q) := floor_step (csU t q k * (t * t)) (c := (2 * (k : Int) + 1) * (2 * k + 2) * (twP q * twP q)) (cs_pos q k)
   have h := Rat.intCast_le_intCast.2 this
   simp only [Rat.intCast_add, Rat.intCast_mul, Rat.intCast_ofNat, Rat.intCast_natCast] at h
   exact h
  rw [ht] at d1 d2
  have kk := Rat.mul_nonneg hk hk
  have ha : (0 : Rat) < (2 * (k : Rat) + 1) * (2 * k + 2) := by grind
  rw [if_neg (show ¬ k + 1 = 0 by omega)]
  have hc : (if k = 0 then (0 : Rat) else 3) * (ptQ t q * ptQ t q) + (2 * (k : Rat) + 1) * (2 * k + 2) ≤ 3 * ((2 * (k : Rat) + 1) * (2 * k + 2)) := by
   split
   ·grind
   ·have hk1 : (1 : Rat) ≤ (k : Rat) := by exact_mod_cast (show 1 ≤ k by omega)
    grind
  exact ⟨step_up ha hp d1 i1 (ec_mul _ k) hc, step_dn ha hp d2 i2 (ec_mul _ k) hc⟩
theorem alt_err {f g : Nat → Int} {e : Nat → Rat} {P : Int} (h1 : ∀ k, P * e k - 3 ≤ (f k : Rat)) (h2 : ∀ k, (g k : Rat) ≤ P * e k + 3) : ∀ n : Nat, P * asQ e n - 3 * (n : Rat) ≤ ((altI f g n : Int) : Rat) ∧ ((altI g f n : Int) : Rat) ≤ P * asQ e n + 3 * (n : Rat)
 | 0 => by
  show P * (0 : Rat) - 3 * ((0 : Nat) : Rat) ≤ ((0 : Int) : Rat) ∧ ((0 : Int) : Rat) ≤ P * (0 : Rat) + 3 * ((0 : Nat) : Rat)
  constructor <;> grind
 | n + 1 => by
  obtain ⟨i1, i2⟩ := alt_err h1 h2 n
  have a := h1 n; have b := h2 n
  have en : ((n + 1 : Nat) : Rat) = n + 1 := by grind
  rw [en]
  simp only [altI, asQ, sgQ, Rat.intCast_add]
  split
  ·constructor <;> grind
  ·rw [Rat.intCast_neg, Rat.intCast_neg]; constructor <;> grind
theorem p16 (j : Nat) : (0 : Rat) < 16 ^ j := by
 induction j with
 | zero => rw [Rat.pow_zero]; grind
 | succ j ih => rw [Rat.pow_succ]; grind
theorem small16 {f : Nat → Rat} (h : ∀ k, 4 ≤ k → 16 * f (k + 1) ≤ f k) (h4 : f 4 ≤ 2) : ∀ j, 16 ^ j * f (4 + j) ≤ 2
 | 0 => by rw [Rat.pow_zero]; show 1 * f 4 ≤ 2; grind
 | j + 1 => by
  have ih := small16 h h4 j
  have a := Rat.mul_le_mul_of_nonneg_left (h (4 + j) (by omega)) (Rat.le_of_lt (p16 j))
  rw [Rat.pow_succ]
  show 16 ^ j * 16 * f (4 + j + 1) ≤ 2
  grind
theorem tw_16j (j : Nat) : ((twP (4 * j) : Int) : Rat) = 16 ^ j := by
 induction j with
 | zero => rw [Rat.pow_zero]; rfl
 | succ j ih =>
  rw [show 4 * (j + 1) = 4 * j + 4 by omega, tw_add, Rat.intCast_mul, ih, Rat.pow_succ]
  have : twP 4 = 16 := by decide
  rw [this]; rfl
theorem tw_mono {a b : Nat} (h : a ≤ b) : twP a ≤ twP b := by
 obtain ⟨d, rfl⟩ : ∃ d, b = a + d := ⟨b - a, by omega⟩
 rw [tw_add]
 have := Int.mul_le_mul_of_nonneg_left (show 1 ≤ twP d by have := tw_pos d; omega) (Int.le_of_lt (tw_pos a))
 omega
theorem small_term {f : Nat → Rat} (h0 : ∀ k, 0 ≤ f k) (h : ∀ k, 4 ≤ k → 16 * f (k + 1) ≤ f k) (h4 : f 4 ≤ 2) {w m : Nat} (hm : w + 16 ≤ 4 * m) (hm4 : 4 ≤ m) : (twP w : Int) * f m ≤ 2 := by
 obtain ⟨j, rfl⟩ : ∃ j, m = 4 + j := ⟨m - 4, by omega⟩
 have a := small16 h h4 j
 have b : ((twP w : Int) : Rat) ≤ 16 ^ j := by
  rw [← tw_16j]; exact_mod_cast tw_mono (show w ≤ 4 * j by omega)
 have := Rat.mul_le_mul_of_nonneg_right b (h0 (4 + j))
 grind
theorem trig_bd (x : Rat) : ∀ d : Rat, 0 < d → ∃ N, ∀ n, N ≤ n → (-(1 + d) ≤ sn n x ∧ sn n x ≤ 1 + d) ∧ (-(1 + d) ≤ cs n x ∧ cs n x ≤ 1 + d) := by
 intro d hd
 obtain ⟨N, hN⟩ := circle (Rb.const x) d hd
 refine ⟨N, fun n hn => ?_⟩
 have a := (hN n hn).1
 dsimp only at a
 have s := sq_nn (sn n x); have c := sq_nn (cs n x)
 have dd := Rat.mul_nonneg (Rat.le_of_lt hd) (Rat.le_of_lt hd)
 have e : (1 + d) * (1 + d) = 1 + 2 * d + d * d := by grind
 have s1 := sq_le (x := sn n x) (y := 1 + d) (by grind) (by grind)
 have s2 := sq_le (x := -sn n x) (y := 1 + d) (by grind) (by grind)
 have c1 := sq_le (x := cs n x) (y := 1 + d) (by grind) (by grind)
 have c2 := sq_le (x := -cs n x) (y := 1 + d) (by grind) (by grind)
 exact ⟨⟨by grind, s1⟩, by grind, c1⟩
theorem as_bd {f : Nat → Rat} (h0 : ∀ k, 0 ≤ f k) {n : Nat} (h : ∀ k, 2 * n ≤ k → f (k + 1) ≤ f k) (lim : ∀ d : Rat, 0 < d → ∃ m, 2 * n + 2 ≤ m ∧ -(1 + d) ≤ asQ f m ∧ asQ f m ≤ 1 + d) : asQ f (2 * n + 1) ≤ 1 + f (2 * n + 1) ∧ -1 - f (2 * n) ≤ asQ f (2 * n) := by
 have e1 : asQ f (2 * n + 2) = asQ f (2 * n + 1) - f (2 * n + 1) := by
  show asQ f (2 * n + 1) + sgQ (2 * n + 1) * f (2 * n + 1) = _
  have : sgQ (2 * n + 1) = -1 := by unfold sgQ; rw [if_neg (by omega)]
  rw [this]; grind
 have e2 : asQ f (2 * n + 1) = asQ f (2 * n) + f (2 * n) := by
  show asQ f (2 * n) + sgQ (2 * n) * f (2 * n) = _
  have : sgQ (2 * n) = 1 := by unfold sgQ; rw [if_pos (by omega)]
  rw [this]; grind
 have b1 := as_between h0 (n := n + 1) (fun k hk => h k (by omega))
 have b2 := as_between h0 (n := n) h
 have key : ∀ d : Rat, 0 < d → asQ f (2 * n + 2) ≤ 1 + d ∧ -(1 + d) ≤ asQ f (2 * n + 1) := fun d hd => by
  obtain ⟨m, hm, l, u⟩ := lim d hd
  rcases Nat.mod_two_eq_zero_or_one m with c | c
  ·obtain ⟨j, rfl⟩ : ∃ j, m = 2 * (n + 1) + 2 * j := ⟨(m - 2 * (n + 1)) / 2, by omega⟩
   have x1 := (b1 j).1.1
   have x2 := (b2 j).2.2
   rw [show 2 * n + 2 * j + 2 = 2 * (n + 1) + 2 * j by omega] at x2
   rw [show 2 * (n + 1) = 2 * n + 2 by omega] at x1 x2 l u
   constructor <;> grind
  ·obtain ⟨j, rfl⟩ : ∃ j, m = 2 * (n + 1) + 2 * j + 1 := ⟨(m - 2 * (n + 1) - 1) / 2, by omega⟩
   have x1 := (b1 j).1.2
   have x2 := (b2 (j + 1)).2.1
   rw [show 2 * n + 2 * (j + 1) + 1 = 2 * (n + 1) + 2 * j + 1 by omega] at x2
   rw [show 2 * (n + 1) = 2 * n + 2 by omega] at x1 x2 l u
   constructor <;> grind
 have k1 : asQ f (2 * n + 2) ≤ 1 := by
  rcases (show asQ f (2 * n + 2) ≤ 1 ∨ 1 < asQ f (2 * n + 2) by grind) with c | c
  ·exact c
  ·have := (key ((asQ f (2 * n + 2) - 1) / 2) (by grind)).1; grind
 have k2 : -1 ≤ asQ f (2 * n + 1) := by
  rcases (show -1 ≤ asQ f (2 * n + 1) ∨ asQ f (2 * n + 1) < -1 by grind) with c | c
  ·exact c
  ·have := (key ((-1 - asQ f (2 * n + 1)) / 2) (by grind)).2; grind
 constructor <;> grind
theorem wave_bd (h0 : 0 ≤ t) (h : t ≤ 2 * twP w) (hn : w + 16 ≤ 8 * n) {k : Nat} (hk : k = 3 ∨ k = 4) : rwHi k t w n ≤ twP w + 6 * n + 5 ∧ -(twP w + 6 * n + 5) ≤ rwLo k t w n := by
 have hp : (0 : Rat) < (twP w : Int) := by exact_mod_cast tw_pos w
 have hx := pt_nonneg (q := w) h0
 have hx2 : ptQ t w ≤ 2 := by
  have h1 : (t : Rat) ≤ 2 * (twP w : Int) := by exact_mod_cast h
  exact dv_le hp h1
 have xx : ptQ t w * ptQ t w ≤ 4 := by have := mul_le2 hx (show (0 : Rat) ≤ 2 by grind) hx2 hx2; grind
 have limit : ∀ d : Rat, 0 < d → ∃ m, 2 * n + 2 ≤ m ∧ (-(1 + d) ≤ asQ (esQ (ptQ t w)) m ∧ asQ (esQ (ptQ t w)) m ≤ 1 + d) ∧ (-(1 + d) ≤ asQ (ecQ (ptQ t w)) m ∧ asQ (ecQ (ptQ t w)) m ≤ 1 + d) := fun d hd => by
  obtain ⟨N, hN⟩ := trig_bd (ptQ t w) d hd
  have a := hN (2 * (N + 2 * n + 2)) (by omega)
  have c := cs_even (ptQ t w) (N + 2 * n + 2)
  rw [c.1, c.2.2.1] at a
  exact ⟨N + 2 * n + 2, by omega, a⟩
 have fin : ∀ (f g : Nat → Int) (e : Nat → Rat), (∀ k, 0 ≤ e k) → (∀ k, 2 * n ≤ k → e (k + 1) ≤ e k) → (∀ k, 4 ≤ k → 16 * e (k + 1) ≤ e k) → e 4 ≤ 2 → (∀ k, (twP w : Int) * e k - 3 ≤ (f k : Rat)) → (∀ k, (g k : Rat) ≤ (twP w : Int) * e k + 3) → (∀ d : Rat, 0 < d → ∃ m, 2 * n + 2 ≤ m ∧ -(1 + d) ≤ asQ e m ∧ asQ e m ≤ 1 + d) → altI g f (2 * n + 1) ≤ twP w + 6 * n + 5 ∧ -(twP w + 6 * n + 5) ≤ altI f g (2 * n) := fun f g e e0 e1 e2 e3 hf hg l => by
  have a := as_bd e0 e1 l
  have b1 := (alt_err hf hg (2 * n + 1)).2
  have b2 := (alt_err hf hg (2 * n)).1
  have s1 := small_term e0 e2 e3 (w := w) (m := 2 * n + 1) (by omega) (by omega)
  have s2 := small_term e0 e2 e3 (w := w) (m := 2 * n) (by omega) (by omega)
  have c1 := Rat.mul_le_mul_of_nonneg_left a.1 (Rat.le_of_lt hp)
  have c2 := Rat.mul_le_mul_of_nonneg_left a.2 (Rat.le_of_lt hp)
  have n1 : ((2 * n + 1 : Nat) : Rat) = 2 * n + 1 := by grind
  have n2 : ((2 * n : Nat) : Rat) = 2 * n := by grind
  rw [n1] at b1
  rw [n2] at b2
  have r1 : ((altI g f (2 * n + 1) : Int) : Rat) ≤ ((twP w + 6 * n + 5 : Int) : Rat) := by
   simp only [Rat.intCast_add, Rat.intCast_mul, Rat.intCast_ofNat, Rat.intCast_natCast]; grind
  have r2 : ((-(twP w + 6 * n + 5) : Int) : Rat) ≤ ((altI f g (2 * n) : Int) : Rat) := by
   simp only [Rat.intCast_neg, Rat.intCast_add, Rat.intCast_mul, Rat.intCast_ofNat, Rat.intCast_natCast]; grind
  exact ⟨Rat.intCast_le_intCast.1 r1, Rat.intCast_le_intCast.1 r2⟩
 rcases hk with rfl | rfl
 ·refine fin (snU t w) (snV t w) (esQ (ptQ t w)) (es_nonneg hx) (fun k _ => es_step2 hx hx2 k) (fun k hk => ?_) ?_ (fun k => by have := (sn_err xx k).2; grind) (fun k => (sn_err xx k).1) (fun d hd => ?_)
  ·have hk4 : (4 : Rat) ≤ (k : Rat) := by exact_mod_cast hk
   have m := es_mul (ptQ t w) k
   have p := es_nonneg hx k; have p' := es_nonneg hx (k + 1)
   have a := Rat.mul_le_mul_of_nonneg_left xx p
   have kk := mul_le2 (show (0 : Rat) ≤ 4 by grind) (show (0 : Rat) ≤ k by grind) hk4 hk4
   have c : (90 : Rat) ≤ (2 * (k : Rat) + 2) * (2 * k + 3) := by grind
   have b := Rat.mul_le_mul_of_nonneg_left c p'
   grind
  ·have a1 := es_step2 hx hx2 0; have a2 := es_step2 hx hx2 1; have a3 := es_step2 hx hx2 2; have a4 := es_step2 hx hx2 3
   have e0 : esQ (ptQ t w) 0 = ptQ t w := by
    show 1 * ptQ t w / (2 * ((0 : Nat) : Rat) + 1) = _
    rw [show ((0 : Nat) : Rat) = 0 from rfl]; grind
   grind
  ·obtain ⟨m, hm, l, _⟩ := limit d hd
   exact ⟨m, hm, l.1, l.2⟩
 ·refine fin (csU t w) (csV t w) (ecQ (ptQ t w)) (ec_nonneg hx) (fun k hk => ec_step2 hx hx2 k (by omega)) (fun k hk => ?_) ?_ (fun k => by have := (cs_err xx k).2; split at this <;> grind) (fun k => by have := (cs_err xx k).1; split at this <;> grind) (fun d hd => ?_)
  ·have hk4 : (4 : Rat) ≤ (k : Rat) := by exact_mod_cast hk
   have m := ec_mul (ptQ t w) k
   have p := ec_nonneg hx k; have p' := ec_nonneg hx (k + 1)
   have a := Rat.mul_le_mul_of_nonneg_left xx p
   have kk := mul_le2 (show (0 : Rat) ≤ 4 by grind) (show (0 : Rat) ≤ k by grind) hk4 hk4
   have c : (90 : Rat) ≤ (2 * (k : Rat) + 1) * (2 * k + 2) := by grind
   have b := Rat.mul_le_mul_of_nonneg_left c p'
   grind
  ·have a2 := ec_step2 hx hx2 1 (by omega); have a3 := ec_step2 hx hx2 2 (by omega); have a4 := ec_step2 hx hx2 3 (by omega)
   have e0 := ec_mul (ptQ t w) 0
   rw [show ((0 : Nat) : Rat) = 0 from rfl, show ecQ (ptQ t w) 0 = 1 from rfl] at e0
   simp only [Nat.zero_add, Nat.reduceAdd] at e0 a2 a3 a4
   grind
  ·obtain ⟨m, hm, _, l⟩ := limit d hd
   exact ⟨m, hm, l.1, l.2⟩
def vJ (c : Bool) (k : Int) : Nat := ((k.toNat + (if c then 1 else 0)) % 4)
def vKi (j : Nat) : Nat := if j % 2 = 0 then 3 else 4
def vN (c neg : Bool) (j : Nat) : Bool := (decide (2 ≤ j)) != (neg && !c)
def vLo (c neg : Bool) (M e : Int) (w n : Nat) : Int := if vN c neg (vJ c (wK M e w)) then -(rwHi (vKi (vJ c (wK M e w))) (wR M e w) w n + (wS M e w - wR M e w)) else rwLo (vKi (vJ c (wK M e w))) (wR M e w) w n - (wS M e w - wR M e w)
def vHi (c neg : Bool) (M e : Int) (w n : Nat) : Int := if vN c neg (vJ c (wK M e w)) then -(rwLo (vKi (vJ c (wK M e w))) (wR M e w) w n - (wS M e w - wR M e w)) else rwHi (vKi (vJ c (wK M e w))) (wR M e w) w n + (wS M e w - wR M e w)
theorem v_hd {c : Bool} (hw : 40 ≤ w ∧ w < 256) (he : -4000 ≤ e) (h : 0 ≤ nq M e ∧ nq M e ≤ nq 64 0) (hn : 1 ≤ n) :
  Hd (vLo c neg M e w n) (vHi c neg M e w n) w (fun m => if c then cs m (if neg then -nq M e else nq M e) else sn m (if neg then -nq M e else nq M e)) := by
 obtain ⟨r0, r1, r2, k0, k1, hd, b0⟩ := w_ok hw he h
 have wv := wave_val (nq M e) (wK M e w).toNat
 obtain ⟨rb, v0, v1, v2, v3⟩ := wv
 have hw2 := Hd.wave (n := n) (by omega) r0 hd.le r1 r2 hn hd rb
 -- without the number's sign
 have t : (fun m => if c then cs m (if neg then -nq M e else nq M e) else sn m (if neg then -nq M e else nq M e)) = (fun m => if c then cs m (nq M e) else if neg then -sn m (nq M e) else sn m (nq M e)) := funext fun m => by
  have := cs_neg m (nq M e)
  cases c <;> cases neg <;> simp [this]
 rw [t]
 have ng : ∀ {X Y : Int} {V W : Nat → Rat}, Hd X Y w V → Rr (fun m => -V m) W → Hd (-Y) (-X) w W := fun a b => a.neg.rr b
 have nn : ∀ {V W : Nat → Rat}, Rr V W → Rr (fun m => -V m) (fun m => -W m) := fun a d hd => by
  obtain ⟨N, hN⟩ := a d hd
  exact ⟨N, fun m hm => by have := hN m hm; constructor <;> grind⟩
 have dn : ∀ {V W : Nat → Rat}, Rr (fun m => -V m) W → Rr V (fun m => -W m) := fun a d hd => by
  obtain ⟨N, hN⟩ := a d hd
  exact ⟨N, fun m hm => by have := hN m hm; dsimp only at this; constructor <;> grind⟩
 have nd : ∀ {V W : Nat → Rat}, Rr V W → Rr (fun m => - -V m) W := fun a d hd => by
  obtain ⟨N, hN⟩ := a d hd
  exact ⟨N, fun m hm => by have := hN m hm; constructor <;> grind⟩
 unfold vLo vHi vN vKi vJ
 rcases (show (wK M e w).toNat % 4 = 0 ∨ (wK M e w).toNat % 4 = 1 ∨ (wK M e w).toNat % 4 = 2 ∨ (wK M e w).toNat % 4 = 3 by omega) with k | k | k | k
 ·have a := v0 k
  cases c <;> cases neg
  ·rw [show ((wK M e w).toNat + (if false = true then 1 else 0)) % 4 = 0 by simp; omega]; exact hw2.1.rr a.1
  ·rw [show ((wK M e w).toNat + (if false = true then 1 else 0)) % 4 = 0 by simp; omega]; exact ng hw2.1 (nn a.1)
  ·rw [show ((wK M e w).toNat + (if true = true then 1 else 0)) % 4 = 1 by simp; omega]; exact hw2.2.rr a.2
  ·rw [show ((wK M e w).toNat + (if true = true then 1 else 0)) % 4 = 1 by simp; omega]; exact hw2.2.rr a.2
 ·have a := v1 k
  cases c <;> cases neg
  ·rw [show ((wK M e w).toNat + (if false = true then 1 else 0)) % 4 = 1 by simp; omega]; exact hw2.2.rr a.1
  ·rw [show ((wK M e w).toNat + (if false = true then 1 else 0)) % 4 = 1 by simp; omega]; exact ng hw2.2 (nn a.1)
  ·rw [show ((wK M e w).toNat + (if true = true then 1 else 0)) % 4 = 2 by simp; omega]; exact ng hw2.1 a.2
  ·rw [show ((wK M e w).toNat + (if true = true then 1 else 0)) % 4 = 2 by simp; omega]; exact ng hw2.1 a.2
 ·have a := v2 k
  cases c <;> cases neg
  ·rw [show ((wK M e w).toNat + (if false = true then 1 else 0)) % 4 = 2 by simp; omega]; exact ng hw2.1 a.1
  ·rw [show ((wK M e w).toNat + (if false = true then 1 else 0)) % 4 = 2 by simp; omega]; exact hw2.1.rr (dn a.1)
  ·rw [show ((wK M e w).toNat + (if true = true then 1 else 0)) % 4 = 3 by simp; omega]; exact ng hw2.2 a.2
  ·rw [show ((wK M e w).toNat + (if true = true then 1 else 0)) % 4 = 3 by simp; omega]; exact ng hw2.2 a.2
 ·have a := v3 k
  cases c <;> cases neg
  ·rw [show ((wK M e w).toNat + (if false = true then 1 else 0)) % 4 = 3 by simp; omega]; exact ng hw2.2 a.1
  ·rw [show ((wK M e w).toNat + (if false = true then 1 else 0)) % 4 = 3 by simp; omega]; exact hw2.2.rr (dn a.1)
  ·rw [show ((wK M e w).toNat + (if true = true then 1 else 0)) % 4 = 0 by simp; omega]; exact hw2.1.rr a.2
  ·rw [show ((wK M e w).toNat + (if true = true then 1 else 0)) % 4 = 0 by simp; omega]; exact hw2.1.rr a.2
theorem w_g (hw : 40 ≤ w ∧ w < 256) (he : -4000 ≤ e) (h : 0 ≤ nq M e ∧ nq M e ≤ nq 64 0) : 0 ≤ wS M e w - wR M e w ∧ wS M e w - wR M e w ≤ 101 := by
 obtain ⟨_, _, _, k0, k1, hd, _⟩ := w_ok hw he h
 have l := hd.le
 obtain ⟨l1, l2, l3, l4⟩ := t_bd hw
 have b1 := b_le (M := M) (e := e) (w := w)
 have m2 := Int.mul_le_mul_of_nonneg_right l4 k0
 have m3 : (tA w + 2) * wK M e w = tA w * wK M e w + 2 * wK M e w := Int.add_mul _ _ _
 refine ⟨by omega, ?_⟩
 unfold wS wR
 omega
theorem v_bd {c : Bool} (hw : 40 ≤ w ∧ w < 256) (he : -4000 ≤ e) (h : 0 ≤ nq M e ∧ nq M e ≤ nq 64 0) (hn : w + 16 ≤ 8 * n) : vHi c neg M e w n ≤ twP w + 6 * n + 106 ∧ -(twP w + 6 * n + 106) ≤ vLo c neg M e w n := by
 obtain ⟨r0, r1, _, k0, k1, hd, _⟩ := w_ok hw he h
 have g := w_g hw he h
 have kk : vKi (vJ c (wK M e w)) = 3 ∨ vKi (vJ c (wK M e w)) = 4 := by unfold vKi; split <;> simp
 have b := wave_bd (n := n) r0 r1 hn kk
 unfold vHi vLo
 split <;> constructor <;> omega
theorem recast_bd (h : X ≤ twP (q + 40) + 6 * n + 106) (hn : n ≤ 1000) : -flI (-X) (-((q + 40 : Nat) : Int) + q) ≤ twP q + 2 := by
 have e : flI (-X) (-((q + 40 : Nat) : Int) + q) = -X / 2 ^ 40 := by
  unfold flI; rw [if_pos (by omega), show (-(-((q + 40 : Nat) : Int) + (q : Int))).toNat = 40 by omega]
 have t : twP (q + 40) = twP q * 2 ^ 40 := by rw [tw_add]; rfl
 rw [e, up_le (two_pow_pos 40)]
 rw [t] at h
 have k : (2 : Int) ^ 40 = 1099511627776 := by decide
 rw [k] at h ⊢
 omega
theorem recast_bd2 (h : -(twP (q + 40) + 6 * n + 106) ≤ X) (hn : n ≤ 1000) : -(twP q + 2) ≤ flI X (-((q + 40 : Nat) : Int) + q) := by
 have := recast_bd (X := -X) (q := q) (n := n) (by omega) hn
 rw [show - -X = X by omega] at this
 omega
theorem wave_hd {c : Bool} (hq : q < 216) (he : -4000 ≤ e) (h : 0 ≤ nq M e ∧ nq M e ≤ nq 64 0) (n : Nat) (hn : 1 ≤ n) :
  Hd (flI (vLo c neg M e (q + 40) n) (-((q + 40 : Nat) : Int) + q)) (-flI (-vHi c neg M e (q + 40) n) (-((q + 40 : Nat) : Int) + q)) q (fun m => if c then cs m (if neg then -nq M e else nq M e) else sn m (if neg then -nq M e else nq M e)) :=
 (v_hd (w := q + 40) (by omega) he h hn).recast (p := q) (by omega) (by omega)
end Go.Proofs.YtjlbngjeekdfcaaGreatDoor.MX
