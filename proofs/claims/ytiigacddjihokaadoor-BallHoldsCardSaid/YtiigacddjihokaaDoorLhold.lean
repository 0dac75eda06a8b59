/-
  Numbers of balls, and what comes of them.
-/
import Derived.Test.YtiigacddjihokaaDoorLhas
namespace Go.Proofs.YtiigacddjihokaaDoor
open Go.RowKit
set_option linter.unusedVariables false

theorem Zr.nil0 (w : World) (k : Nat) : Zr w false none 0 0 0 k := (Zn.nil0 w k).zr
/-- What some number of a ball has: an exponent that counts. -/
theorem Bt.between {X Y I : Int} {k : Nat} (hX : Bt X k) (hY : Bt Y k) (h1 : X ≤ I) (h2 : I ≤ Y) : Bt I k := by unfold Bt at *; omega
theorem dy_ok {I q : Int} {k : Nat} (hB : Bt I k) (hk : k ≤ 600) (hq : 0 ≤ q ∧ q ≤ 600) : In (nE I (-q)) ∧ vd (od I) (nE I (-q)) = vd I (-q) :=
  ⟨nE_in hB (by omega) (by omega) (by omega), vd_nf (by omega)⟩
theorem has_dy {X Y q M e : Int} (hv : 0 ≤ q ∧ q ≤ 2048 ∧ X ≤ Y) (he : In e) (h1 : vd X (-q) ≤ vd M e) (h2 : vd M e ≤ vd Y (-q)) : hasB X Y q M e = true := by
  unfold hasB
  rw [(c_yes (X := M) he).1, (c_yes (X := M) he).2]
  exact decide_eq_true ⟨hv, h1, h2⟩
/-- A number of a ball lies in it. -/
theorem h_int {X Y q I : Int} {k : Nat} (hB : Bt I k) (hk : k ≤ 600) (hq : 0 ≤ q ∧ q ≤ 255) (h1 : X ≤ I) (h2 : I ≤ Y) : hasB X Y q (od I) (nE I (-q)) = true := by
  obtain ⟨a, b⟩ := dy_ok hB hk (q := q) (by omega)
  exact has_dy ⟨hq.1, by omega, by omega⟩ a (by rw [b]; exact vd_le.2 h1) (by rw [b]; exact vd_le.2 h2)
theorem vd_addI (X Y e : Int) : vd X e + vd Y e = vd (X + Y) e := by unfold vd; rw [Int.add_mul]
theorem vd_subI (X Y e : Int) : vd X e - vd Y e = vd (X - Y) e := by unfold vd; rw [Int.sub_mul]
/-- The sum, the difference and the product of two dyads, in normal form. -/
theorem sum_nf {I J q : Int} (hI : Bt I 256) (hJ : Bt J 256) (hq : 0 ≤ q ∧ q ≤ 255) {e f : Int} (he : nE I (-q) = e) (hf : nE J (-q) = f) :
    od (alP (od I) e f + alQ (od J) e f) = od (I + J) ∧ nE (alP (od I) e f + alQ (od J) e f) (alE e f) = nE (I + J) (-q) := by
  obtain ⟨a, b⟩ := dy_ok hI (by omega) (q := q) (by omega)
  obtain ⟨c, d⟩ := dy_ok hJ (by omega) (q := q) (by omega)
  rw [he] at a b
  rw [hf] at c d
  refine vd_same (alE_in e f).1 (by omega) ?_
  rw [← vd_addI, alP_vd a c, alQ_vd a c, b, d, vd_addI]
theorem dif_nf {I J q : Int} (hI : Bt I 256) (hJ : Bt J 256) (hq : 0 ≤ q ∧ q ≤ 255) {e f : Int} (he : nE I (-q) = e) (hf : nE J (-q) = f) :
    od (alP (od I) e f - alQ (od J) e f) = od (I - J) ∧ nE (alP (od I) e f - alQ (od J) e f) (alE e f) = nE (I - J) (-q) := by
  obtain ⟨a, b⟩ := dy_ok hI (by omega) (q := q) (by omega)
  obtain ⟨c, d⟩ := dy_ok hJ (by omega) (q := q) (by omega)
  rw [he] at a b
  rw [hf] at c d
  refine vd_same (alE_in e f).1 (by omega) ?_
  rw [← vd_subI, alP_vd a c, alQ_vd a c, b, d, vd_subI]
theorem nE_range {I q : Int} {k : Nat} (hB : Bt I k) (hq : 0 ≤ q ∧ q ≤ 600) : -600 ≤ nE I (-q) ∧ nE I (-q) ≤ k := nE_le hB (by omega) (by omega) (by omega) (by omega)
theorem mul_nf {I J q : Int} (hI : Bt I 256) (hJ : Bt J 256) (hq : 0 ≤ q ∧ q ≤ 255) {e f : Int} (he : nE I (-q) = e) (hf : nE J (-q) = f) :
    od (cM (od I) e * cM (od J) f) = od (I * J) ∧ nE (cM (od I) e * cM (od J) f) (cE e + cE f) = nE (I * J) (-(q + q)) := by
  obtain ⟨a, b⟩ := dy_ok hI (by omega) (q := q) (by omega)
  obtain ⟨c, d⟩ := dy_ok hJ (by omega) (q := q) (by omega)
  have r1 := nE_range hI (q := q) (by omega)
  have r2 := nE_range hJ (q := q) (by omega)
  rw [he] at a b r1
  rw [hf] at c d r2
  rw [(c_yes (X := od I) a).1, (c_yes (X := od I) a).2, (c_yes (X := od J) c).1, (c_yes (X := od J) c).2]
  refine vd_same (by omega) (by omega) ?_
  have h1 := vd_mul (X := od I) (Y := od J) (e := e) (f := f) (by omega) (by omega) (by omega)
  have h2 := vd_mul (X := I) (Y := J) (e := -q) (f := -q) (by omega) (by omega) (by omega)
  rw [b, d, h2, show -q + -q = -(q + q) by omega] at h1
  exact (Int.mul_eq_mul_right_iff (Int.ne_of_gt (two_pow_pos 4000))).1 h1.symm
/-- A product lies in the product's ball. -/
theorem h_mul {X Y U V I J q : Int} (hI : Bt I 256) (hJ : Bt J 256) (hq : 0 ≤ q ∧ q ≤ 255) (h1 : X ≤ I ∧ I ≤ Y) (h2 : U ≤ J ∧ J ≤ V) :
    hasB (mn4 (fun x y => flI (x * y) (-q)) X Y U V) (mx4 (fun x y => -flI (-(x * y)) (-q)) X Y U V) q (od (I * J)) (nE (I * J) (-(q + q))) = true := by
  obtain ⟨a, b⟩ := dy_ok (I := I * J) (q := q + q) (hI.mul hJ) (by omega) (by omega)
  obtain ⟨m1, m2⟩ := mul_between h1 h2
  have e1 := fl_mn4 (fun x y => x * y) X Y U V (-q)
  have e2 := fl_mx4 (fun x y => x * y) X Y U V (-q)
  rw [← e1, ← e2]
  have l1 := (le_flI (Z := flI (mn4 (fun x y => x * y) X Y U V) (-q)) (X := mn4 (fun x y => x * y) X Y U V) (e := -(q + q)) (q := q) (by omega) (by omega)).1 (by rw [show -(q + q) + q = -q by omega]; exact Int.le_refl _)
  have l2 := (ceI_le (Z := -flI (-mx4 (fun x y => x * y) X Y U V) (-q)) (X := mx4 (fun x y => x * y) X Y U V) (e := -(q + q)) (q := q) (by omega) (by omega)).1 (by rw [show -(q + q) + q = -q by omega]; exact Int.le_refl _)
  have l3 := (vd_le (e := -(q + q))).2 m1
  have l4 := (vd_le (e := -(q + q))).2 m2
  have hlo : vd (flI (mn4 (fun x y => x * y) X Y U V) (-q)) (-q) ≤ vd (I * J) (-(q + q)) := Int.le_trans l1 l3
  have hhi : vd (I * J) (-(q + q)) ≤ vd (-flI (-mx4 (fun x y => x * y) X Y U V) (-q)) (-q) := Int.le_trans l4 l2
  exact has_dy ⟨hq.1, by omega, (vd_le (e := -q)).1 (Int.le_trans hlo hhi)⟩ a (by rw [b]; exact hlo) (by rw [b]; exact hhi)
theorem fl_back {I q : Int} (hq : 0 ≤ q) : flI (I * 2 ^ q.toNat) (-q) = I := by
  unfold flI
  split
  · rw [Int.neg_neg]; exact Int.mul_ediv_cancel _ (Int.ne_of_gt (two_pow_pos _))
  · obtain rfl : q = 0 := by omega
    simp
theorem fd_le_cd {x y : Int} (hy : y ≠ 0) : fdI x y ≤ cdI x y := by
  rcases (show 0 < y ∨ y < 0 by omega) with h | h
  · exact Int.le_of_mul_le_mul_right (Int.le_trans (fdI_mul_pos h) (cdI_mul_pos h)) h
  · have h1 := cdI_mul_neg (x := x) h
    have h2 := fdI_mul_neg (x := x) h
    rcases Int.lt_or_le (cdI x y) (fdI x y) with hc | hc
    · have := Int.mul_lt_mul_of_neg_right hc h
      omega
    · exact hc
/-- A quotient's ball times the divisor holds what was divided. -/
theorem h_div {X Y U V I q L H : Int} {k : Nat} (hI : Bt I k) (hk : k ≤ 600) (hq : 0 ≤ q ∧ q ≤ 255) (h1 : X ≤ I ∧ I ≤ Y) (hU : U ≠ 0) (hL : mn4 (fun x y => fdI (x * 2 ^ q.toNat) y) X Y U V = L) (hH : mx4 (fun x y => cdI (x * 2 ^ q.toNat) y) X Y U V = H) :
    L ≤ H ∧ hasB (mn4 (fun x y => flI (x * y) (-q)) L H U V) (mx4 (fun x y => -flI (-(x * y)) (-q)) L H U V) q (od I) (nE I (-q)) = true := by
  have hs : (0 : Int) ≤ 2 ^ q.toNat := Int.le_of_lt (two_pow_pos _)
  obtain ⟨b1, b2⟩ := div_between (c := U) (d := V) h1 hs hU
  obtain ⟨c1, c2⟩ := div_holds (c := U) (d := V) h1 hs hU
  have b3 := fd_le_cd (x := I * 2 ^ q.toNat) hU
  rw [hL] at b1 c1 c2
  rw [hH] at b2 c1 c2
  have e1 := fl_mn4 (fun x y => x * y) L H U V (-q)
  have e2 := fl_mx4 (fun x y => x * y) L H U V (-q)
  rw [← e1, ← e2]
  have f1 := flI_mono (n := -q) c1
  have f2 := flI_mono (n := -q) (show -mx4 (fun x y => x * y) L H U V ≤ -(I * 2 ^ q.toNat) by omega)
  rw [fl_back hq.1] at f1
  rw [show -(I * 2 ^ q.toNat) = (-I) * 2 ^ q.toNat by rw [Int.neg_mul], fl_back hq.1] at f2
  exact ⟨by omega, h_int hI hk hq f1 (by omega)⟩
theorem h_zero {U V q : Int} (hq : 0 ≤ q ∧ q ≤ 255) (h : U ≤ V) : hasB U V q 0 0 = decide (U ≤ 0 ∧ 0 ≤ V) := by
  unfold hasB
  have hz : vd (cM 0 0) (cE 0) = vd 0 (-q) := by rw [(c_yes (X := 0) (e := 0) (by omega)).1]; unfold vd; simp
  rw [hz]
  refine decide_eq_decide.2 ⟨fun hc => ⟨vd_le.1 hc.2.1, vd_le.1 hc.2.2⟩, fun hc => ⟨⟨hq.1, by omega, h⟩, vd_le.2 hc.1, vd_le.2 hc.2⟩⟩
end Go.Proofs.YtiigacddjihokaaDoor
