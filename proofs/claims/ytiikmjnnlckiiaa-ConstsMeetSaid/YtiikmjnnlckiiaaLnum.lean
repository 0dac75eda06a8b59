/-
  The arithmetic of balls.
-/
import Derived.Test.YtiikmjnnlckiiaaLint
namespace Go.Proofs.Ytiikmjnnlckiiaa
open Go.RowKit
set_option linter.unusedVariables false

theorem mulp_le {X Y : Int} (k : Nat) : X * 2 ^ k ≤ Y * 2 ^ k ↔ X ≤ Y := by
  have hp := two_pow_pos k
  exact ⟨fun h => Int.le_of_mul_le_mul_right h hp, fun h => Int.mul_le_mul_of_nonneg_right h (Int.le_of_lt hp)⟩
theorem vd_le {X Y e : Int} : vd X e ≤ vd Y e ↔ X ≤ Y := mulp_le _
/-- An integer is not above what is rounded down just if it is not above the number. -/
theorem le_flI {Z X e q : Int} (he : -4000 ≤ e) (hq : q ≤ 4000) : Z ≤ flI X (e + q) ↔ vd Z (-q) ≤ vd X e := by
  unfold flI vd
  split
  · rename_i h
    rw [Int.le_ediv_iff_mul_le (two_pow_pos _), ← mulp_le (e + 4000).toNat, Int.mul_assoc, ipow_add]
    rw [show (-(e + q)).toNat + (e + 4000).toNat = (-q + 4000).toNat by omega]
  · rename_i h
    rw [← mulp_le (-q + 4000).toNat, Int.mul_assoc X, ipow_add]
    rw [show (e + q).toNat + (-q + 4000).toNat = (e + 4000).toNat by omega]
/-- What is rounded up is not above an integer just if the number is not above it. -/
theorem ceI_le {Z X e q : Int} (he : -4000 ≤ e) (hq : q ≤ 4000) : -flI (-X) (e + q) ≤ Z ↔ vd X e ≤ vd Z (-q) := by
  have h := le_flI (Z := -Z) (X := -X) he hq
  rw [vd_neg, vd_neg] at h
  omega
theorem flI_mono {X Y n : Int} (h : X ≤ Y) : flI X n ≤ flI Y n := by
  unfold flI
  split
  · exact Int.ediv_le_ediv (two_pow_pos _) h
  · exact (mulp_le _).2 h
/-- The least of four, in the order in which they come. -/
def mn4 (f : Int → Int → Int) (X Y U V : Int) : Int := min (min (min (f X U) (f X V)) (f Y U)) (f Y V)
def mx4 (f : Int → Int → Int) (X Y U V : Int) : Int := max (max (max (f X U) (f X V)) (f Y U)) (f Y V)
theorem flI_min (a b n : Int) : flI (min a b) n = min (flI a n) (flI b n) := by
  rcases Int.le_total a b with h | h
  · rw [Int.min_eq_left h, Int.min_eq_left (flI_mono h)]
  · rw [Int.min_eq_right h, Int.min_eq_right (flI_mono h)]
theorem flI_max (a b n : Int) : -flI (-max a b) n = max (-flI (-a) n) (-flI (-b) n) := by
  rcases Int.le_total a b with h | h
  · have := flI_mono (n := n) (show -b ≤ -a by omega)
    rw [Int.max_eq_right h]; omega
  · have := flI_mono (n := n) (show -a ≤ -b by omega)
    rw [Int.max_eq_left h]; omega
theorem fl_mn4 (f : Int → Int → Int) (X Y U V n : Int) : flI (mn4 f X Y U V) n = mn4 (fun x y => flI (f x y) n) X Y U V := by
  unfold mn4; rw [flI_min, flI_min, flI_min]
theorem fl_mx4 (f : Int → Int → Int) (X Y U V n : Int) : -flI (-mx4 f X Y U V) n = mx4 (fun x y => -flI (-f x y) n) X Y U V := by
  unfold mx4; rw [flI_max, flI_max, flI_max]
/-- Rounded down; rounded up. -/
def fdI (x y : Int) : Int := if y < 0 then (-x) / (-y) else x / y
def cdI (x y : Int) : Int := -fdI (-x) y
theorem fdI_mono {x z y : Int} (hy : 0 < y) (h : x ≤ z) : fdI x y ≤ fdI z y := by
  unfold fdI; rw [if_neg (by omega), if_neg (by omega)]; exact Int.ediv_le_ediv hy h
theorem fdI_anti {x z y : Int} (hy : y < 0) (h : x ≤ z) : fdI z y ≤ fdI x y := by
  unfold fdI; rw [if_pos hy, if_pos hy]; exact Int.ediv_le_ediv (by omega) (by omega)
theorem fdI_mul_pos {x y : Int} (hy : 0 < y) : fdI x y * y ≤ x := by
  unfold fdI; rw [if_neg (by omega)]; exact Int.ediv_mul_le x (by omega)
theorem fdI_mul_neg {x y : Int} (hy : y < 0) : x ≤ fdI x y * y := by
  unfold fdI; rw [if_pos hy]
  have := Int.ediv_mul_le (-x) (show -y ≠ 0 by omega)
  rw [Int.mul_neg] at this
  omega
theorem cdI_mul_pos {x y : Int} (hy : 0 < y) : x ≤ cdI x y * y := by
  unfold cdI; have := fdI_mul_pos (x := -x) hy; rw [Int.neg_mul]; omega
theorem cdI_mul_neg {x y : Int} (hy : y < 0) : cdI x y * y ≤ x := by
  unfold cdI; have := fdI_mul_neg (x := -x) hy; rw [Int.neg_mul]; omega
/-- A product of numbers between lies between the ends' products. -/
theorem mul_between {a b c d x y : Int} (hx : a ≤ x ∧ x ≤ b) (hy : c ≤ y ∧ y ≤ d) : mn4 (· * ·) a b c d ≤ x * y ∧ x * y ≤ mx4 (· * ·) a b c d := by
  unfold mn4 mx4
  dsimp only
  have key : ∀ z : Int, (a * z ≤ x * z ∧ x * z ≤ b * z) ∨ (b * z ≤ x * z ∧ x * z ≤ a * z) := fun z => by
    rcases Int.le_total 0 z with h | h
    · exact .inl ⟨Int.mul_le_mul_of_nonneg_right hx.1 h, Int.mul_le_mul_of_nonneg_right hx.2 h⟩
    · exact .inr ⟨Int.mul_le_mul_of_nonpos_right hx.2 h, Int.mul_le_mul_of_nonpos_right hx.1 h⟩
  have key2 : (x * c ≤ x * y ∧ x * y ≤ x * d) ∨ (x * d ≤ x * y ∧ x * y ≤ x * c) := by
    rcases Int.le_total 0 x with h | h
    · exact .inl ⟨Int.mul_le_mul_of_nonneg_left hy.1 h, Int.mul_le_mul_of_nonneg_left hy.2 h⟩
    · exact .inr ⟨Int.mul_le_mul_of_nonpos_left h hy.2, Int.mul_le_mul_of_nonpos_left h hy.1⟩
  have k1 := key c
  have k2 := key d
  omega
/-- A quotient's ends, times any number of the divisor, hold what was divided. -/
theorem div_between {a b c d x s : Int} (hx : a ≤ x ∧ x ≤ b) (hs : 0 ≤ s) (hc : c ≠ 0) : mn4 (fun x y => fdI (x * s) y) a b c d ≤ fdI (x * s) c ∧ cdI (x * s) c ≤ mx4 (fun x y => cdI (x * s) y) a b c d := by
  unfold mn4 mx4
  have h1 := Int.mul_le_mul_of_nonneg_right hx.1 hs
  have h2 := Int.mul_le_mul_of_nonneg_right hx.2 hs
  rcases (show 0 < c ∨ c < 0 by omega) with h | h
  · have e1 := fdI_mono h h1
    have e2 := fdI_mono (x := -(b * s)) (z := -(x * s)) h (by omega)
    unfold cdI
    dsimp only
    omega
  · have e1 := fdI_anti h h2
    have e2 := fdI_anti (x := -(x * s)) (z := -(a * s)) h (by omega)
    unfold cdI
    dsimp only
    omega
theorem div_holds {a b c d x s : Int} (hx : a ≤ x ∧ x ≤ b) (hs : 0 ≤ s) (hc : c ≠ 0) :
    mn4 (· * ·) (mn4 (fun x y => fdI (x * s) y) a b c d) (mx4 (fun x y => cdI (x * s) y) a b c d) c d ≤ x * s ∧ x * s ≤ mx4 (· * ·) (mn4 (fun x y => fdI (x * s) y) a b c d) (mx4 (fun x y => cdI (x * s) y) a b c d) c d := by
  have h := div_between (c := c) (d := d) hx hs hc
  generalize mn4 (fun x y => fdI (x * s) y) a b c d = L at *
  generalize mx4 (fun x y => cdI (x * s) y) a b c d = H at *
  unfold mn4 mx4
  dsimp only
  rcases (show 0 < c ∨ c < 0 by omega) with h0 | h0
  · have e1 := fdI_mul_pos (x := x * s) h0
    have e2 := cdI_mul_pos (x := x * s) h0
    have e3 := Int.mul_le_mul_of_nonneg_right h.1 (Int.le_of_lt h0)
    have e4 := Int.mul_le_mul_of_nonneg_right h.2 (Int.le_of_lt h0)
    omega
  · have e1 := fdI_mul_neg (x := x * s) h0
    have e2 := cdI_mul_neg (x := x * s) h0
    have e3 := Int.mul_le_mul_of_nonpos_right h.1 (Int.le_of_lt h0)
    have e4 := Int.mul_le_mul_of_nonpos_right h.2 (Int.le_of_lt h0)
    omega
/-- Sums and differences: the ends of the ends. -/
theorem add_mn4 {a b c d : Int} (h : a ≤ b) (h2 : c ≤ d) : mn4 (· + ·) a b c d = a + c ∧ mx4 (· + ·) a b c d = b + d := by
  unfold mn4 mx4; dsimp only; omega
theorem sub_mn4 {a b c d : Int} (h : a ≤ b) (h2 : c ≤ d) : mn4 (· - ·) a b c d = a - d ∧ mx4 (· - ·) a b c d = b - c := by
  unfold mn4 mx4; dsimp only; omega
theorem cmp_vdc {X Y e f : Int} : sgnI (alP X e f - alQ Y e f) = sgnI (vd (cM X e) (cE e) - vd (cM Y f) (cE f)) := by
  have h := cmp_vd (X := cM X e) (Y := cM Y f) (cE_in e) (cE_in f)
  have h1 : alP (cM X e) (cE e) (cE f) = alP X e f := by
    unfold alP alE; rw [(c_yes (X := cM X e) (cE_in e)).1, (c_yes (X := 0) (cE_in e)).2, (c_yes (X := 0) (cE_in f)).2]
  have h2 : alQ (cM Y f) (cE e) (cE f) = alQ Y e f := by
    unfold alQ alE; rw [(c_yes (X := cM Y f) (cE_in f)).1, (c_yes (X := 0) (cE_in e)).2, (c_yes (X := 0) (cE_in f)).2]
  rw [h1, h2] at h
  exact h
/-- Does a ball contain a dyad? Does a ball lie in another one? Do they meet? -/
def hasB (X Y q M e : Int) : Bool := decide ((0 ≤ q ∧ q ≤ 2048 ∧ X ≤ Y) ∧ vd X (-q) ≤ vd (cM M e) (cE e) ∧ vd (cM M e) (cE e) ≤ vd Y (-q))
def insB (X Y q U V r : Int) : Bool := decide ((0 ≤ q ∧ q ≤ 2048 ∧ X ≤ Y) ∧ (0 ≤ r ∧ r ≤ 2048 ∧ U ≤ V) ∧ vd U (-r) ≤ vd X (-q) ∧ vd Y (-q) ≤ vd V (-r))
def metB (X Y q U V r : Int) : Bool := decide ((0 ≤ q ∧ q ≤ 2048 ∧ X ≤ Y) ∧ (0 ≤ r ∧ r ≤ 2048 ∧ U ≤ V) ∧ vd X (-q) ≤ vd V (-r) ∧ vd U (-r) ≤ vd Y (-q))
end Go.Proofs.Ytiikmjnnlckiiaa
