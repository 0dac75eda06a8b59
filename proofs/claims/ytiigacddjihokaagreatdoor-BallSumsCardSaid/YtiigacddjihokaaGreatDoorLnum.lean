/-
 The arithmetic of balls.
-/
import Derived.Test.YtiigacddjihokaaGreatDoorLint
namespace Go.Proofs.YtiigacddjihokaaGreatDoor
open Go.RowKit
set_option linter.unusedVariables false

theorem mulp_le {X Y : Int} (k : Nat) : X * 2 ^ k ≤ Y * 2 ^ k ↔ X ≤ Y := by
 have hp := two_pow_pos k
 exact ⟨fun h => Int.le_of_mul_le_mul_right h hp, fun h => Int.mul_le_mul_of_nonneg_right h (Int.le_of_lt hp)⟩
theorem flI_mono {X Y n : Int} (h : X ≤ Y) : flI X n ≤ flI Y n := by
 unfold flI
 split
 ·exact Int.ediv_le_ediv (two_pow_pos _) h
 ·exact (mulp_le _).2 h
/-- The least of four, in the order in which they come. -/
def mn4 (f : Int → Int → Int) (X Y U V : Int) : Int := min (min (min (f X U) (f X V)) (f Y U)) (f Y V)
def mx4 (f : Int → Int → Int) (X Y U V : Int) : Int := max (max (max (f X U) (f X V)) (f Y U)) (f Y V)
theorem flI_min (a b n : Int) : flI (min a b) n = min (flI a n) (flI b n) := by
 rcases Int.le_total a b with h | h
 ·rw [Int.min_eq_left h, Int.min_eq_left (flI_mono h)]
 ·rw [Int.min_eq_right h, Int.min_eq_right (flI_mono h)]
theorem flI_max (a b n : Int) : -flI (-max a b) n = max (-flI (-a) n) (-flI (-b) n) := by
 rcases Int.le_total a b with h | h
 ·have := flI_mono (n := n) (show -b ≤ -a by omega)
  rw [Int.max_eq_right h]; omega
 ·have := flI_mono (n := n) (show -a ≤ -b by omega)
  rw [Int.max_eq_left h]; omega
theorem fl_mn4 (f : Int → Int → Int) (X Y U V n : Int) : flI (mn4 f X Y U V) n = mn4 (fun x y => flI (f x y) n) X Y U V := by
 unfold mn4; rw [flI_min, flI_min, flI_min]
theorem fl_mx4 (f : Int → Int → Int) (X Y U V n : Int) : -flI (-mx4 f X Y U V) n = mx4 (fun x y => -flI (-f x y) n) X Y U V := by
 unfold mx4; rw [flI_max, flI_max, flI_max]
/-- Rounded down; rounded up. -/
def fdI (x y : Int) : Int := if y < 0 then (-x) / (-y) else x / y
def cdI (x y : Int) : Int := -fdI (-x) y
end Go.Proofs.YtiigacddjihokaaGreatDoor
