/-
 rows: sums of terms rounded down and up, what lies between them; sine and cosine on the circle.
-/
import Derived.Test.YtjlbngjeekdfcaaGreatDoorPa
namespace Go.Proofs.YtjlbngjeekdfcaaGreatDoor
variable {M P a b c t x0 : Int}
set_option linter.unusedVariables false
def sumI (f : Nat → Int) : Nat → Int
 | 0 => 0
 | n + 1 => sumI f n + f n
def altI (e o : Nat → Int) : Nat → Int
 | 0 => 0
 | n + 1 => altI e o n + (if n % 2 = 0 then e n else -o n)
def dnS (x m : Int) (D : Nat → Int) : Nat → Int
 | 0 => x
 | k + 1 => dnS x m D k * m / D k
def upS (x m : Int) (D : Nat → Int) : Nat → Int
 | 0 => x
 | k + 1 => -(-(upS x m D k * m) / D k)
theorem le_dv (hc : 0 < c) : a ≤ b / c ↔ a * c ≤ b := Int.le_ediv_iff_mul_le hc
theorem up_le (hc : 0 < c) : -(-b / c) ≤ a ↔ b ≤ a * c := by
 have h := le_dv (a := -a) (b := -b) hc
 rw [Int.neg_mul] at h
 constructor
 ·intro h1; have := h.1 (by omega); omega
 ·intro h1; have := h.2 (by omega); omega
theorem dv_mul_le (b : Int) {c : Int} (hc : 0 < c) : b / c * c ≤ b := (le_dv hc).1 (Int.le_refl _)
theorem le_up_mul (b : Int) {c : Int} (hc : 0 < c) : b ≤ -(-b / c) * c := (up_le hc).1 (Int.le_refl _)
section
variable {x m : Int} {D : Nat → Int}
theorem dnS_nonneg (hx : 0 ≤ x) (hm : 0 ≤ m) (hD : ∀ k, 0 < D k) : ∀ k, 0 ≤ dnS x m D k
 | 0 => hx
 | k + 1 => Int.ediv_nonneg (Int.mul_nonneg (dnS_nonneg hx hm hD k) hm) (Int.le_of_lt (hD k))
theorem dn_le_up (hx : 0 ≤ x) (hm : 0 ≤ m) (hD : ∀ k, 0 < D k) : ∀ k, dnS x m D k ≤ upS x m D k
 | 0 => Int.le_refl _
 | k + 1 => by
  have h1 := dn_le_up hx hm hD k
  have h2 : dnS x m D k * m ≤ upS x m D k * m := Int.mul_le_mul_of_nonneg_right h1 hm
  have h3 := dv_mul_le (dnS x m D k * m) (hD k)
  have h4 := le_up_mul (upS x m D k * m) (hD k)
  exact Int.le_of_mul_le_mul_right (by simp only [dnS, upS]; omega) (hD k)
theorem upS_nonneg (hx : 0 ≤ x) (hm : 0 ≤ m) (hD : ∀ k, 0 < D k) (k : Nat) : 0 ≤ upS x m D k := Int.le_trans (dnS_nonneg hx hm hD k) (dn_le_up hx hm hD k)
end
section
variable {f g : Nat → Int}
end
def ecQ (x : Rat) : Nat → Rat
 | 0 => 1
 | k + 1 => ecQ x k * (x * x) / (2 * k + 1) / (2 * k + 2)
def esQ (x : Rat) (k : Nat) : Rat := ecQ x k * x / (2 * k + 1)
def sgQ (k : Nat) : Rat := if k % 2 = 0 then 1 else -1
theorem sg_succ (k : Nat) : sgQ (k + 1) = -sgQ k := by
 unfold sgQ
 rcases (show k % 2 = 0 ∨ k % 2 = 1 by omega) with h | h
 ·rw [if_neg (by omega), if_pos h]
 ·rw [if_pos (by omega), if_neg (by omega)]; rfl
def asQ (f : Nat → Rat) : Nat → Rat
 | 0 => 0
 | k + 1 => asQ f k + sgQ k * f k
theorem c0Q (n : Nat) : (0 : Rat) ≤ n := by exact_mod_cast Nat.zero_le n
theorem dv_inv {a b : Rat} : a / b = a * b⁻¹ := Rat.div_def a b
theorem inv_one {a : Rat} (h : a ≠ 0) : a⁻¹ * a = 1 := Rat.inv_mul_cancel a h
theorem inv_pos {b : Rat} (hb : 0 < b) : 0 ≤ b⁻¹ := Rat.le_of_lt (Rat.inv_pos.2 hb)
theorem dv_le {a b c : Rat} (hb : 0 < b) (h : a ≤ c * b) : a / b ≤ c := by
 have h1 := inv_one (show b ≠ 0 by grind)
 have h2 : (0 : Rat) ≤ b⁻¹ := inv_pos hb
 have h3 := Rat.mul_le_mul_of_nonneg_right h h2
 rw [dv_inv]
 have h4 : c * b * b⁻¹ = c := by grind
 grind
theorem le_dvQ {a b c : Rat} (hb : 0 < b) (h : c * b ≤ a) : c ≤ a / b := by
 have h1 := inv_one (show b ≠ 0 by grind)
 have h2 : (0 : Rat) ≤ b⁻¹ := inv_pos hb
 have h3 := Rat.mul_le_mul_of_nonneg_right h h2
 rw [dv_inv]
 have h4 : c * b * b⁻¹ = c := by grind
 grind
theorem dv_nonneg {a b : Rat} (ha : 0 ≤ a) (hb : 0 < b) : 0 ≤ a / b := le_dvQ hb (by grind)
theorem ec_nonneg {x : Rat} (hx : 0 ≤ x) : ∀ k, 0 ≤ ecQ x k
 | 0 => by simp only [ecQ]; grind
 | k + 1 => by
  have hk := c0Q k
  simp only [ecQ]
  exact dv_nonneg (dv_nonneg (Rat.mul_nonneg (ec_nonneg hx k) (Rat.mul_nonneg hx hx)) (by grind)) (by grind)
theorem es_nonneg {x : Rat} (hx : 0 ≤ x) (k : Nat) : 0 ≤ esQ x k := by
 have hk := c0Q k
 exact dv_nonneg (Rat.mul_nonneg (ec_nonneg hx k) hx) (by grind)
theorem es_succ (x : Rat) (k : Nat) : esQ x (k + 1) = esQ x k * (x * x) / (2 * k + 2) / (2 * k + 3) := by
 have hk := c0Q k
 simp only [esQ, ecQ, Rat.natCast_add, Rat.natCast_ofNat]
 rw [show (2 : Rat) * (k + 1) + 1 = 2 * k + 3 by grind]
 simp only [dv_inv]
 grind
theorem as_nonneg {f : Nat → Rat} (h0 : ∀ k, 0 ≤ f k) (h : ∀ k, f (k + 1) ≤ f k) : ∀ m, 0 ≤ asQ f (2 * m) ∧ 0 ≤ asQ f (2 * m + 1)
 | 0 => by
  have e : sgQ 0 = 1 := rfl
  have := h0 0
  simp only [asQ, e]
  grind
 | m + 1 => by
  have ⟨i1, i2⟩ := as_nonneg h0 h m
  have e1 : sgQ (2 * m) = 1 := by unfold sgQ; rw [if_pos (by omega)]
  have e2 : sgQ (2 * m + 1) = -1 := by unfold sgQ; rw [if_neg (by omega)]
  have e3 : sgQ (2 * m + 1 + 1) = 1 := by unfold sgQ; rw [if_pos (by omega)]
  have h1 := h (2 * m)
  have h2 := h0 (2 * m + 1 + 1)
  rw [show 2 * (m + 1) = 2 * m + 1 + 1 by omega]
  simp only [asQ, e1, e2, e3]
  grind
theorem dn_true {x : Rat} {e : Nat → Rat} {A B : Nat → Int} (hA : ∀ k, 0 < A k) (hB : ∀ k, 0 < B k) (hP : 0 < P) (ht : (t : Rat) = x * P) (h0 : (x0 : Rat) = P * e 0) (he : ∀ k, e (k + 1) = e k * (x * x) / (A k : Int) / (B k : Int)) :
  ∀ k, ((dnS x0 (t * t) (fun k => A k * B k * (P * P)) k : Int) : Rat) ≤ P * e k
 | 0 => by simp only [dnS]; grind
 | k + 1 => by
  have ih := dn_true hA hB hP ht h0 he k
  have hp : (0 : Rat) < P := by exact_mod_cast hP
  have ha : (0 : Rat) < (A k : Int) := by exact_mod_cast hA k
  have hb : (0 : Rat) < (B k : Int) := by exact_mod_cast hB k
  have hd := dv_mul_le (dnS x0 (t * t) (fun k => A k * B k * (P * P)) k * (t * t)) (c := A k * B k * (P * P)) (Int.mul_pos (Int.mul_pos (hA k) (hB k)) (Int.mul_pos hP hP))
  have hs : dnS x0 (t * t) (fun k => A k * B k * (P * P)) (k + 1) = dnS x0 (t * t) (fun k => A k * B k * (P * P)) k * (t * t) / (A k * B k * (P * P)) := rfl
  rw [← hs] at hd
  generalize dnS x0 (t * t) (fun k => A k * B k * (P * P)) (k + 1) = U' at *
  generalize dnS x0 (t * t) (fun k => A k * B k * (P * P)) k = U at *
  have hd2 : (U' : Rat) * (A k * B k * (P * P)) ≤ U * (t * t) := by exact_mod_cast hd
  rw [ht] at hd2
  have hq : (0 : Rat) ≤ (P : Rat)⁻¹ * (P : Rat)⁻¹ := Rat.mul_nonneg (inv_pos hp) (inv_pos hp)
  have hi := inv_one (show (P : Rat) ≠ 0 by grind)
  have hd3 := Rat.mul_le_mul_of_nonneg_right hd2 hq
  have e1 : (U' : Rat) * (A k * B k * (P * P)) * ((P : Rat)⁻¹ * (P : Rat)⁻¹) = U' * (A k * B k) * (((P : Rat)⁻¹ * P) * ((P : Rat)⁻¹ * P)) := by grind
  have e2 : (U : Rat) * (x * P * (x * P)) * ((P : Rat)⁻¹ * (P : Rat)⁻¹) = U * (x * x) * (((P : Rat)⁻¹ * P) * ((P : Rat)⁻¹ * P)) := by grind
  rw [e1, e2, hi] at hd3
  have hx : (0 : Rat) ≤ x * x := by
   rcases Rat.le_total (a := 0) (b := x) with h | h
   ·exact Rat.mul_nonneg h h
   ·have := Rat.mul_nonneg (show 0 ≤ -x by grind) (show 0 ≤ -x by grind); grind
  have hd4 := Rat.mul_le_mul_of_nonneg_right ih hx
  rw [he, show (P : Rat) * (e k * (x * x) / (A k : Int) / (B k : Int)) = P * e k * (x * x) / (A k : Int) / (B k : Int) by simp only [dv_inv]; grind]
  refine le_dvQ hb (le_dvQ ha ?_)
  grind
theorem up_true {x : Rat} {e : Nat → Rat} {A B : Nat → Int} (hA : ∀ k, 0 < A k) (hB : ∀ k, 0 < B k) (hP : 0 < P) (ht : (t : Rat) = x * P) (h0 : (x0 : Rat) = P * e 0) (he : ∀ k, e (k + 1) = e k * (x * x) / (A k : Int) / (B k : Int)) :
  ∀ k, P * e k ≤ ((upS x0 (t * t) (fun k => A k * B k * (P * P)) k : Int) : Rat)
 | 0 => by simp only [upS]; grind
 | k + 1 => by
  have ih := up_true hA hB hP ht h0 he k
  have hp : (0 : Rat) < P := by exact_mod_cast hP
  have ha : (0 : Rat) < (A k : Int) := by exact_mod_cast hA k
  have hb : (0 : Rat) < (B k : Int) := by exact_mod_cast hB k
  have hd := le_up_mul (upS x0 (t * t) (fun k => A k * B k * (P * P)) k * (t * t)) (c := A k * B k * (P * P)) (Int.mul_pos (Int.mul_pos (hA k) (hB k)) (Int.mul_pos hP hP))
  have hs : upS x0 (t * t) (fun k => A k * B k * (P * P)) (k + 1) = -(-(upS x0 (t * t) (fun k => A k * B k * (P * P)) k * (t * t)) / (A k * B k * (P * P))) := rfl
  rw [← hs] at hd
  generalize upS x0 (t * t) (fun k => A k * B k * (P * P)) (k + 1) = U' at *
  generalize upS x0 (t * t) (fun k => A k * B k * (P * P)) k = U at *
  have hd2 : (U : Rat) * (t * t) ≤ U' * (A k * B k * (P * P)) := by exact_mod_cast hd
  rw [ht] at hd2
  have hq : (0 : Rat) ≤ (P : Rat)⁻¹ * (P : Rat)⁻¹ := Rat.mul_nonneg (inv_pos hp) (inv_pos hp)
  have hi := inv_one (show (P : Rat) ≠ 0 by grind)
  have hd3 := Rat.mul_le_mul_of_nonneg_right hd2 hq
  have e1 : (U' : Rat) * (A k * B k * (P * P)) * ((P : Rat)⁻¹ * (P : Rat)⁻¹) = U' * (A k * B k) * (((P : Rat)⁻¹ * P) * ((P : Rat)⁻¹ * P)) := by grind
  have e2 : (U : Rat) * (x * P * (x * P)) * ((P : Rat)⁻¹ * (P : Rat)⁻¹) = U * (x * x) * (((P : Rat)⁻¹ * P) * ((P : Rat)⁻¹ * P)) := by grind
  rw [e1, e2, hi] at hd3
  have hx : (0 : Rat) ≤ x * x := by
   rcases Rat.le_total (a := 0) (b := x) with h | h
   ·exact Rat.mul_nonneg h h
   ·have := Rat.mul_nonneg (show 0 ≤ -x by grind) (show 0 ≤ -x by grind); grind
  have hd4 := Rat.mul_le_mul_of_nonneg_right ih hx
  rw [he, show (P : Rat) * (e k * (x * x) / (A k : Int) / (B k : Int)) = P * e k * (x * x) / (A k : Int) / (B k : Int) by simp only [dv_inv]; grind]
  refine dv_le hb (dv_le ha ?_)
  grind
theorem alt_lo {f g : Nat → Int} {e : Nat → Rat} (hf : ∀ k, (f k : Rat) ≤ P * e k) (hg : ∀ k, P * e k ≤ (g k : Rat)) : ∀ n, ((altI f g n : Int) : Rat) ≤ P * asQ e n
 | 0 => by simp only [altI, asQ]; grind
 | n + 1 => by
  have ih := alt_lo hf hg n
  have h1 := hf n; have h2 := hg n
  simp only [altI, asQ, sgQ, Rat.intCast_add]
  split
  ·grind
  ·rw [Rat.intCast_neg]; grind
theorem alt_hi {f g : Nat → Int} {e : Nat → Rat} (hf : ∀ k, (f k : Rat) ≤ P * e k) (hg : ∀ k, P * e k ≤ (g k : Rat)) : ∀ n, P * asQ e n ≤ ((altI g f n : Int) : Rat)
 | 0 => by simp only [altI, asQ]; grind
 | n + 1 => by
  have ih := alt_hi hf hg n
  have h1 := hf n; have h2 := hg n
  simp only [altI, asQ, sgQ, Rat.intCast_add]
  split
  ·grind
  ·rw [Rat.intCast_neg]; grind
def twP (q : Nat) : Int := 2 ^ q
def exU (t : Int) (q : Nat) : Nat → Int := dnS (twP q) t (fun k => (k + 1) * twP q)
def exV (t : Int) (q : Nat) : Nat → Int := upS (twP q) t (fun k => (k + 1) * twP q)
def taU (t : Int) (q : Nat) : Nat → Int := dnS t (t * t) (fun _ => twP q * twP q)
def taV (t : Int) (q : Nat) : Nat → Int := upS t (t * t) (fun _ => twP q * twP q)
def taC (t : Int) (q : Nat) (k : Nat) : Int := taU t q k / (2 * k + 1)
def taD (t : Int) (q : Nat) (k : Nat) : Int := -(-taV t q k / (2 * k + 1))
def snU (t : Int) (q : Nat) : Nat → Int := dnS t (t * t) (fun k => (2 * k + 2) * (2 * k + 3) * (twP q * twP q))
def snV (t : Int) (q : Nat) : Nat → Int := upS t (t * t) (fun k => (2 * k + 2) * (2 * k + 3) * (twP q * twP q))
def csU (t : Int) (q : Nat) : Nat → Int := dnS (twP q) (t * t) (fun k => (2 * k + 1) * (2 * k + 2) * (twP q * twP q))
def csV (t : Int) (q : Nat) : Nat → Int := upS (twP q) (t * t) (fun k => (2 * k + 1) * (2 * k + 2) * (twP q * twP q))
def rwLo (kind : Nat) (t : Int) (q n : Nat) : Int := match kind with
 | 0 => sumI (exU t q) n
 | 1 => sumI (taC t q) n
 | 2 => altI (taC t q) (taD t q) (2 * n)
 | 3 => altI (snU t q) (snV t q) (2 * n)
 | _ => altI (csU t q) (csV t q) (2 * n)
def rwHi (kind : Nat) (t : Int) (q n : Nat) : Int := match kind with
 | 0 => sumI (exV t q) n + 2 * exV t q n
 | 1 => sumI (taD t q) n + 2 * taD t q n
 | 2 => altI (taD t q) (taC t q) (2 * n + 1)
 | 3 => altI (snV t q) (snU t q) (2 * n + 1)
 | _ => altI (csV t q) (csU t q) (2 * n + 1)
theorem tw_pos (q : Nat) : 0 < twP q := Int.pow_pos (by omega)
theorem tw_add (q s : Nat) : twP (q + s) = twP q * twP s := Int.pow_add ..
theorem two_pos (k : Nat) : (0 : Int) < 2 * k + 1 := by omega
theorem sn_pos (q k : Nat) : (0 : Int) < (2 * k + 2) * (2 * k + 3) * (twP q * twP q) := Int.mul_pos (Int.mul_pos (by omega) (by omega)) (Int.mul_pos (tw_pos q) (tw_pos q))
theorem cs_pos (q k : Nat) : (0 : Int) < (2 * k + 1) * (2 * k + 2) * (twP q * twP q) := Int.mul_pos (Int.mul_pos (by omega) (by omega)) (Int.mul_pos (tw_pos q) (tw_pos q))
theorem ex_pos (q k : Nat) : (0 : Int) < (k + 1) * twP q := Int.mul_pos (by omega) (tw_pos q)
theorem ta_pos (q : Nat) : (0 : Int) < twP q * twP q := Int.mul_pos (tw_pos q) (tw_pos q)
section
variable {t : Int} {q : Nat}
theorem ta_c_nonneg (h0 : 0 ≤ t) (k : Nat) : 0 ≤ taC t q k := Int.ediv_nonneg (dnS_nonneg h0 (Int.mul_nonneg h0 h0) (fun _ => ta_pos q) k) (Int.le_of_lt (two_pos k))
theorem ta_c_d (h0 : 0 ≤ t) (k : Nat) : taC t q k ≤ taD t q k := by
 have h1 := dn_le_up h0 (Int.mul_nonneg h0 h0) (fun _ => ta_pos q) k
 have h2 := dv_mul_le (taU t q k) (two_pos k)
 have h3 := le_up_mul (taV t q k) (two_pos k)
 refine Int.le_of_mul_le_mul_right (a := 2 * (k : Int) + 1) ?_ (two_pos k)
 unfold taC taD taU taV at *
 omega
end
section
variable {t : Int} {q : Nat}
def ptQ (t : Int) (q : Nat) : Rat := t / (twP q : Int)
theorem pt_mul (t : Int) (q : Nat) : (t : Rat) = ptQ t q * (twP q : Int) := by
 have hp : (0 : Rat) < (twP q : Int) := by exact_mod_cast tw_pos q
 unfold ptQ
 grind
theorem pt_nonneg (h0 : 0 ≤ t) : 0 ≤ ptQ t q := dv_nonneg (by exact_mod_cast h0) (by exact_mod_cast tw_pos q)
theorem pt_le (h : t ≤ twP q) : ptQ t q ≤ 1 := by
 have h1 : (t : Rat) ≤ (twP q : Int) := by exact_mod_cast h
 exact dv_le (by exact_mod_cast tw_pos q) (by grind)
theorem sn_true (t : Int) (q : Nat) (k : Nat) : ((snU t q k : Int) : Rat) ≤ (twP q : Int) * esQ (ptQ t q) k ∧ (twP q : Int) * esQ (ptQ t q) k ≤ ((snV t q k : Int) : Rat) := by
 have h0 : (t : Rat) = (twP q : Int) * esQ (ptQ t q) 0 := by
  have := pt_mul t q
  simp only [esQ, ecQ]
  grind
 have he : ∀ k : Nat, esQ (ptQ t q) (k + 1) = esQ (ptQ t q) k * (ptQ t q * ptQ t q) / ((2 * (k : Int) + 2 : Int) : Rat) / ((2 * (k : Int) + 3 : Int) : Rat) := fun k => by
  rw [es_succ]
  simp only [Rat.intCast_add, Rat.intCast_mul, Rat.intCast_ofNat, Rat.intCast_natCast]
 exact ⟨dn_true (fun k => by omega) (fun k => by omega) (tw_pos q) (pt_mul t q) h0 he k, up_true (fun k => by omega) (fun k => by omega) (tw_pos q) (pt_mul t q) h0 he k⟩
theorem cs_true (t : Int) (q : Nat) (k : Nat) : ((csU t q k : Int) : Rat) ≤ (twP q : Int) * ecQ (ptQ t q) k ∧ (twP q : Int) * ecQ (ptQ t q) k ≤ ((csV t q k : Int) : Rat) := by
 have h0 : ((twP q : Int) : Rat) = (twP q : Int) * ecQ (ptQ t q) 0 := by
  simp only [ecQ]
  grind
 have he : ∀ k : Nat, ecQ (ptQ t q) (k + 1) = ecQ (ptQ t q) k * (ptQ t q * ptQ t q) / ((2 * (k : Int) + 1 : Int) : Rat) / ((2 * (k : Int) + 2 : Int) : Rat) := fun k => by
  simp only [ecQ, Rat.intCast_add, Rat.intCast_mul, Rat.intCast_ofNat, Rat.intCast_natCast]
 exact ⟨dn_true (fun k => by omega) (fun k => by omega) (tw_pos q) (pt_mul t q) h0 he k, up_true (fun k => by omega) (fun k => by omega) (tw_pos q) (pt_mul t q) h0 he k⟩
end
section
variable {x m M : Int} {D : Nat → Int}
theorem upS_step (hx : 0 ≤ x) (hm : 0 ≤ m) (hD : ∀ k, 0 < D k) (k : Nat) (hd : m ≤ D k) : upS x m D (k + 1) ≤ upS x m D k := by
 have h0 := upS_nonneg hx hm hD k
 show -(-(upS x m D k * m) / D k) ≤ upS x m D k
 rw [up_le (hD k)]
 exact Int.mul_le_mul_of_nonneg_left hd h0
theorem upS_le (hx : 0 ≤ x) (hm : 0 ≤ m) (hD : ∀ k, 0 < D k) (hd : ∀ k, m ≤ D k) (hM : x ≤ M) : ∀ k, upS x m D k ≤ M
 | 0 => hM
 | k + 1 => Int.le_trans (upS_step hx hm hD k (hd k)) (upS_le hx hm hD hd hM k)
theorem upS_le2 (hx : 0 ≤ x) (hm : 0 ≤ m) (hD : ∀ k, 0 < D k) (h0 : m ≤ 2 * D 0) (hd : ∀ k, m ≤ D (k + 1)) (hM : 2 * x ≤ M) : ∀ k, upS x m D k ≤ M
 | 0 => by show x ≤ M; omega
 | 1 => by
  refine Int.le_trans ?_ hM
  show -(-(x * m) / D 0) ≤ 2 * x
  rw [up_le (hD 0)]
  have := Int.mul_le_mul_of_nonneg_left h0 hx
  grind
 | k + 2 => Int.le_trans (upS_step hx hm hD (k + 1) (hd k)) (upS_le2 hx hm hD h0 hd hM (k + 1))
end
theorem sum_bd {f : Nat → Int} (h0 : ∀ k, 0 ≤ f k) (h : ∀ k, f k ≤ M) : ∀ n : Nat, 0 ≤ sumI f n ∧ sumI f n ≤ n * M
 | 0 => by simp [sumI]
 | n + 1 => by
  have ih := sum_bd h0 h n
  have h1 := h0 n; have h2 := h n
  have e : ((n + 1 : Nat) : Int) * M = n * M + M := by rw [Int.natCast_add, Int.add_mul]; simp
  simp only [sumI]
  rw [e]
  omega
theorem alt_bd {e o : Nat → Int} (h0 : ∀ k, 0 ≤ e k) (h : ∀ k, e k ≤ M) (h1 : ∀ k, 0 ≤ o k) (h2 : ∀ k, o k ≤ M) : ∀ n : Nat, -(n * M) ≤ altI e o n ∧ altI e o n ≤ n * M
 | 0 => by simp [altI]
 | n + 1 => by
  have ih := alt_bd h0 h h1 h2 n
  have a1 := h0 n; have a2 := h n; have a3 := h1 n; have a4 := h2 n
  have e : ((n + 1 : Nat) : Int) * M = n * M + M := by rw [Int.natCast_add, Int.add_mul]; simp
  simp only [altI]
  rw [e]
  split <;> omega
section
variable {t : Int} {q : Nat}
theorem ex_bd (h0 : 0 ≤ t) (h : t ≤ twP q) (k : Nat) : 0 ≤ exU t q k ∧ exU t q k ≤ exV t q k ∧ exV t q k ≤ twP q := by
 have hp := Int.le_of_lt (tw_pos q)
 refine ⟨dnS_nonneg hp h0 (ex_pos q) k, dn_le_up hp h0 (ex_pos q) k, upS_le hp h0 (ex_pos q) (fun k => ?_) (Int.le_refl _) k⟩
 have := Int.mul_nonneg (show (0 : Int) ≤ k by omega) hp
 rw [Int.add_mul]
 omega
theorem ta_bd (h0 : 0 ≤ t) (h : t ≤ twP q) (k : Nat) : 0 ≤ taU t q k ∧ taU t q k ≤ taV t q k ∧ taV t q k ≤ twP q := by
 have ht := Int.mul_nonneg h0 h0
 exact ⟨dnS_nonneg h0 ht (fun _ => ta_pos q) k, dn_le_up h0 ht (fun _ => ta_pos q) k, upS_le h0 ht (fun _ => ta_pos q) (fun _ => Int.mul_le_mul h h h0 (by omega)) h k⟩
theorem sn_bd (h0 : 0 ≤ t) (h : t ≤ 2 * twP q) (k : Nat) : 0 ≤ snU t q k ∧ snU t q k ≤ snV t q k ∧ snV t q k ≤ 2 * twP q := by
 have ht := Int.mul_nonneg h0 h0
 have hp := tw_pos q
 refine ⟨dnS_nonneg h0 ht (sn_pos q) k, dn_le_up h0 ht (sn_pos q) k, upS_le h0 ht (sn_pos q) (fun k => ?_) h k⟩
 have h1 := Int.mul_le_mul h h h0 (by omega)
 have h2 := Int.mul_le_mul_of_nonneg_right (show (4 : Int) ≤ (2 * k + 2) * (2 * k + 3) from Int.le_trans (show (4 : Int) ≤ 2 * 2 by omega) (Int.mul_le_mul (by omega) (by omega) (by omega) (by omega))) (Int.le_of_lt (ta_pos q))
 grind
theorem cs_bd (h0 : 0 ≤ t) (h : t ≤ 2 * twP q) (k : Nat) : 0 ≤ csU t q k ∧ csU t q k ≤ csV t q k ∧ csV t q k ≤ 2 * twP q := by
 have ht := Int.mul_nonneg h0 h0
 have hp := tw_pos q
 have h1 := Int.mul_le_mul h h h0 (by omega)
 refine ⟨dnS_nonneg (Int.le_of_lt hp) ht (cs_pos q) k, dn_le_up (Int.le_of_lt hp) ht (cs_pos q) k, upS_le2 (Int.le_of_lt hp) ht (cs_pos q) ?_ (fun k => ?_) (Int.le_refl _) k⟩
 ·show t * t ≤ 2 * ((2 * 0 + 1) * (2 * 0 + 2) * (twP q * twP q))
  grind
 ·have h2 := Int.mul_le_mul_of_nonneg_right (show (4 : Int) ≤ (2 * ((k + 1 : Nat) : Int) + 1) * (2 * ((k + 1 : Nat) : Int) + 2) from Int.le_trans (show (4 : Int) ≤ 2 * 2 by omega) (Int.mul_le_mul (by omega) (by omega) (by omega) (by omega))) (Int.le_of_lt (ta_pos q))
  grind
end
end Go.Proofs.YtjlbngjeekdfcaaGreatDoor
