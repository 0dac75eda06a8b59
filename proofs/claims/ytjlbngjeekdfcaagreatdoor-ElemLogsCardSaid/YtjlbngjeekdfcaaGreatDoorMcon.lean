/-
 the balls of consts hold the logarithm of 2, and pi.
-/
import Derived.Test.YtjlbngjeekdfcaaGreatDoorMtrg
import Derived.Test.YtjlbngjeekdfcaaGreatDoorQdef
namespace Go.Proofs.YtjlbngjeekdfcaaGreatDoor.MX
set_option linter.unusedVariables false
open Rg
theorem al_mono {x y : Rat} (h : 0 ≤ x) (l : x ≤ y) (n : Nat) : al n x ≤ al n y := by
 unfold al
 exact S_le fun i _ => Rat.mul_le_mul_of_nonneg_left (pw_mono h l i) (at2_nn i)
theorem pt_part (W m : Nat) (hm : 0 < m) : ptQ ((2 ^ W / m : Nat) : Int) W ≤ 1 / (m : Rat) ∧ 1 / (m : Rat) ≤ ptQ ((2 ^ W / m + 1 : Nat) : Int) W := by
 have hp : (0 : Rat) < (twP W : Int) := by exact_mod_cast tw_pos W
 have hm0 : (0 : Rat) < (m : Rat) := by exact_mod_cast hm
 have e : ((twP W : Int) : Rat) = ((2 ^ W : Nat) : Rat) := by rw [← twN]; rfl
 have h1 : (((2 ^ W / m : Nat)) : Rat) * m ≤ ((2 ^ W : Nat) : Rat) := by exact_mod_cast Nat.div_mul_le_self (2 ^ W) m
 have h2 : ((2 ^ W : Nat) : Rat) ≤ ((2 ^ W / m + 1 : Nat) : Rat) * m := by
  have := Nat.lt_mul_div_succ (2 ^ W) hm
  have h3 : 2 ^ W ≤ (2 ^ W / m + 1) * m := by rw [Nat.mul_comm]; omega
  exact_mod_cast h3
 constructor
 ·refine dv_le hp ?_
  rw [e]
  have i := Rat.inv_pos.2 hm0
  have a := Rat.mul_le_mul_of_nonneg_right h1 (show 0 ≤ (m : Rat)⁻¹ by grind)
  have c : (((2 ^ W / m : Nat)) : Rat) * m * (m : Rat)⁻¹ = ((2 ^ W / m : Nat) : Rat) := by rw [Rat.mul_assoc, Rat.mul_inv_cancel _ (by grind), Rat.mul_one]
  rw [c] at a
  rw [show (((2 ^ W / m : Nat) : Int) : Rat) = ((2 ^ W / m : Nat) : Rat) from rfl, Rat.div_def, Rat.one_mul]
  grind
 ·refine le_dvQ hp ?_
  rw [e]
  have i := Rat.inv_pos.2 hm0
  have a := Rat.mul_le_mul_of_nonneg_right h2 (show 0 ≤ (m : Rat)⁻¹ by grind)
  have c : ((2 ^ W / m + 1 : Nat) : Rat) * m * (m : Rat)⁻¹ = ((2 ^ W / m + 1 : Nat) : Rat) := by rw [Rat.mul_assoc, Rat.mul_inv_cancel _ (by grind), Rat.mul_one]
  rw [c] at a
  rw [show (((2 ^ W / m + 1 : Nat) : Int) : Rat) = ((2 ^ W / m + 1 : Nat) : Rat) from rfl, Rat.div_def, Rat.one_mul]
  grind
theorem part_ok (W m : Nat) (hW : 4 ≤ W) (hm : 3 ≤ m) : 2 * ((2 ^ W / m + 1 : Nat) : Int) ≤ twP W := by
 have h1 : 2 ^ W / m ≤ 2 ^ W / 3 := Nat.div_le_div_left hm (by omega)
 have h2 : 2 ^ 4 ≤ 2 ^ W := Nat.pow_le_pow_right (by omega) hW
 rw [← twN]
 have : 2 * (2 ^ W / m + 1) ≤ 2 ^ W := by
  have h3 : 2 ^ W / 3 * 3 ≤ 2 ^ W := Nat.div_mul_le_self _ _
  generalize 2 ^ W / m = a at *
  generalize 2 ^ W / 3 = b at *
  generalize 2 ^ W = T at *
  omega
 exact_mod_cast this
theorem ln_sum (W : Nat) (hW : 4 ≤ W) (N : Nat) (hN : 2 * (W / 3 + 2) ≤ N) : 2 * ((lnLo W : Int) : Rat) ≤ (twP W : Int) * lam N ∧ (twP W : Int) * lam N ≤ 2 * ((lnHi W : Int) : Rat) := by
 have hp : (0 : Rat) ≤ (twP W : Int) := by exact_mod_cast Int.le_of_lt (tw_pos W)
 have ok := part_ok W 3 hW (by omega)
 have pt := pt_part W 3 (by omega)
 have t0 : (0 : Int) ≤ ((2 ^ W / 3 : Nat) : Int) := Int.natCast_nonneg _
 have t1 : (0 : Int) ≤ ((2 ^ W / 3 + 1 : Nat) : Int) := Int.natCast_nonneg _
 have ok2 : 2 * ((2 ^ W / 3 : Nat) : Int) ≤ twP W := by
  generalize 2 ^ W / 3 = a at *; omega
 have a := (at_in (t := ((2 ^ W / 3 : Nat) : Int)) (q := W) (n := W / 3 + 2) t0 ok2 N hN).1
 have b := (at_in (t := ((2 ^ W / 3 + 1 : Nat) : Int)) (q := W) (n := W / 3 + 2) t1 ok N hN).2
 have e3 : (1 : Rat) / ((3 : Nat) : Rat) = 1 / 3 := by rfl
 rw [e3] at pt
 have c := Rat.mul_le_mul_of_nonneg_left (al_mono (pt_nonneg (q := W) t0) pt.1 N) hp
 have d := Rat.mul_le_mul_of_nonneg_left (al_mono (show (0 : Rat) ≤ 1 / 3 by grind) pt.2 N) hp
 exact ⟨Rat.le_trans a c, Rat.le_trans d b⟩
theorem tw_16 (q : Nat) : ((twP (q + 16) : Int) : Rat) = (twP q : Int) * 65536 := by
 rw [tw_add, Rat.intCast_mul]; rfl
theorem ln_hold (q N : Nat) (hN : 2 * ((q + 16) / 3 + 2) ≤ N) : ((lnA q : Int) : Rat) ≤ (twP q : Int) * lam N ∧ (twP q : Int) * lam N ≤ ((lnZ q : Int) : Rat) := by
 have h := ln_sum (q + 16) (by omega) N hN
 rw [tw_16] at h
 have a : ((lnA q : Int) : Rat) * 65536 ≤ 2 * ((lnLo (q + 16) : Int) : Rat) := by
  have := Rat.intCast_le_intCast.2 (show lnA q * 65536 ≤ 2 * lnLo (q + 16) by unfold lnA; omega)
  rw [Rat.intCast_mul, Rat.intCast_mul, Rat.intCast_ofNat, Rat.intCast_ofNat] at this
  exact this
 have b : 2 * ((lnHi (q + 16) : Int) : Rat) ≤ ((lnZ q : Int) : Rat) * 65536 := by
  have := Rat.intCast_le_intCast.2 (show 2 * lnHi (q + 16) ≤ lnZ q * 65536 by unfold lnZ; omega)
  rw [Rat.intCast_mul, Rat.intCast_mul, Rat.intCast_ofNat, Rat.intCast_ofNat] at this
  exact this
 constructor <;> grind
theorem ar_sum (W m : Nat) (hW : 4 ≤ W) (hm : 3 ≤ m) (k : Nat) (hk : 2 * (W / 9 + 2) + 1 ≤ k) : ((arLo W m : Int) : Rat) ≤ (twP W : Int) * asQ (tq (1 / (m : Rat))) k ∧ (twP W : Int) * asQ (tq (1 / (m : Rat))) k ≤ ((arHi W m : Int) : Rat) := by
 have hp : (0 : Rat) < (twP W : Int) := by exact_mod_cast tw_pos W
 have ok := part_ok W m hW hm
 have pt := pt_part W m (by omega)
 have t0 : (0 : Int) ≤ ((2 ^ W / m : Nat) : Int) := Int.natCast_nonneg _
 have t1 : (0 : Int) ≤ ((2 ^ W / m + 1 : Nat) : Int) := Int.natCast_nonneg _
 have ok2 : ((2 ^ W / m : Nat) : Int) ≤ twP W ∧ ((2 ^ W / m + 1 : Nat) : Int) ≤ twP W := by
  generalize 2 ^ W / m = a at *; omega
 have a := (ar_in (t := ((2 ^ W / m : Nat) : Int)) (q := W) (n := W / 9 + 2) t0 ok2.1 k hk).1
 have b := (ar_in (t := ((2 ^ W / m + 1 : Nat) : Int)) (q := W) (n := W / 9 + 2) t1 ok2.2 k hk).2
 have up : ptQ ((2 ^ W / m + 1 : Nat) : Int) W ≤ 1 / 2 := by
  refine dv_le hp ?_
  have : 2 * ((((2 ^ W / m + 1 : Nat) : Int)) : Rat) ≤ (twP W : Int) := by exact_mod_cast ok
  grind
 have m0 : (0 : Rat) ≤ 1 / (m : Rat) := Rat.le_trans (pt_nonneg (q := W) t0) pt.1
 have c := Rat.mul_le_mul_of_nonneg_left (ar_mono (pt_nonneg (q := W) t0) pt.1 (Rat.le_trans pt.2 up) k) (show 0 ≤ ((twP W : Int) : Rat) by grind)
 have d := Rat.mul_le_mul_of_nonneg_left (ar_mono m0 pt.2 up k) (show 0 ≤ ((twP W : Int) : Rat) by grind)
 exact ⟨Rat.le_trans a c, Rat.le_trans d b⟩
theorem pi_hold (q N : Nat) (hN : 4 * ((q + 16) / 9 + 2) + 2 ≤ N) : ((piA q : Int) : Rat) ≤ (twP q : Int) * (2 * eta N) ∧ (twP q : Int) * (2 * eta N) ≤ ((piZ q : Int) : Rat) := by
 have h5 := ar_sum (q + 16) 5 (by omega) (by omega) (N / 2) (by omega)
 have h9 := ar_sum (q + 16) 239 (by omega) (by omega) (N / 2) (by omega)
 rw [tw_16] at h5 h9
 have e5 : (1 : Rat) / ((5 : Nat) : Rat) = 1 / 5 := by rfl
 have e9 : (1 : Rat) / ((239 : Nat) : Rat) = 1 / 239 := by rfl
 rw [e5] at h5
 rw [e9] at h9
 have a : ((piA q : Int) : Rat) * 65536 ≤ 16 * ((arLo (q + 16) 5 : Int) : Rat) - 4 * ((arHi (q + 16) 239 : Int) : Rat) := by
  have := Rat.intCast_le_intCast.2 (show piA q * 65536 ≤ 16 * arLo (q + 16) 5 - 4 * arHi (q + 16) 239 by unfold piA; omega)
  rw [Rat.intCast_mul, Rat.intCast_sub, Rat.intCast_mul, Rat.intCast_mul, Rat.intCast_ofNat, Rat.intCast_ofNat, Rat.intCast_ofNat] at this
  exact this
 have b : 16 * ((arHi (q + 16) 5 : Int) : Rat) - 4 * ((arLo (q + 16) 239 : Int) : Rat) ≤ ((piZ q : Int) : Rat) * 65536 := by
  have := Rat.intCast_le_intCast.2 (show 16 * arHi (q + 16) 5 - 4 * arLo (q + 16) 239 ≤ piZ q * 65536 by unfold piZ; omega)
  rw [Rat.intCast_mul, Rat.intCast_sub, Rat.intCast_mul, Rat.intCast_mul, Rat.intCast_ofNat, Rat.intCast_ofNat, Rat.intCast_ofNat] at this
  exact this
 unfold eta
 generalize asQ (tq (1 / 5)) (N / 2) = u at *
 generalize asQ (tq (1 / 239)) (N / 2) = v at *
 constructor <;> grind
theorem ex_sub_nn {a b : Rat} (h : 0 ≤ a) (l : a ≤ b) (k : Nat) : 0 ≤ ex b k - ex a k := by have := ex_mono h l k; grind
theorem E_inj {a b : Rat} (h : 0 ≤ a) (l : a ≤ b) {n : Nat} (hn : 2 ≤ n) : b - a ≤ E n b - E n a := by
 have h1 : E n b - E n a = S (fun k => ex b k - ex a k) n := S_subR _ _ n
 rw [h1]
 refine Rat.le_trans ?_ (S_mono (ex_sub_nn h l) hn)
 show b - a ≤ 0 + (1 - 1) + (1 / (((0 : Nat) : Rat) + 1) * (1 * b) - 1 / (((0 : Nat) : Rat) + 1) * (1 * a))
 have : (1 : Rat) / (((0 : Nat) : Rat) + 1) = 1 := by grind
 rw [this]; grind
theorem e_inj {s t : Nat → Rat} (hs : ∀ n, 0 ≤ s n) (ht : ∀ n, 0 ≤ t n) (h : Rr (fun n => E n (s n)) (fun n => E n (t n))) : Rr s t := fun d hd => by
 obtain ⟨N, hN⟩ := h d hd
 refine ⟨N + 2, fun n hn => ?_⟩
 have h1 := hN n (by omega)
 rcases (show s n ≤ t n ∨ t n ≤ s n by grind) with a | a
 ·have := E_inj (hs n) a (show 2 ≤ n by omega)
  dsimp only at h1
  constructor <;> grind
 ·have := E_inj (ht n) a (show 2 ≤ n by omega)
  dsimp only at h1
  constructor <;> grind
end Go.Proofs.YtjlbngjeekdfcaaGreatDoor.MX
