/-
 rows: sums of terms rounded down and up, what lies between them; sine and cosine on the circle.
-/
import Derived.Test.YtdonaominffpnaaGreatDoorPa
namespace Go.Proofs.YtdonaominffpnaaGreatDoor
variable {a b c : Int}
set_option linter.unusedVariables false
def sumI (f : Nat → Int) : Nat → Int
 | 0 => 0
 | n + 1 => sumI f n + f n
def altI (e o : Nat → Int) : Nat → Int
 | 0 => 0
 | n + 1 => altI e o n + (if n % 2 = 0 then e n else -o n)
def dnS (x m : Int) (D : Nat → Int) : Nat → Int
 | 0 => x
 | k + 1 => dnS x m D k * m / D k
def upS (x m : Int) (D : Nat → Int) : Nat → Int
 | 0 => x
 | k + 1 => -(-(upS x m D k * m) / D k)
theorem le_dv (hc : 0 < c) : a ≤ b / c ↔ a * c ≤ b := Int.le_ediv_iff_mul_le hc
theorem up_le (hc : 0 < c) : -(-b / c) ≤ a ↔ b ≤ a * c := by
 have h := le_dv (a := -a) (b := -b) hc
 rw [Int.neg_mul] at h
 constructor
 ·intro h1; have := h.1 (by omega); omega
 ·intro h1; have := h.2 (by omega); omega
theorem dv_mul_le (b : Int) {c : Int} (hc : 0 < c) : b / c * c ≤ b := (le_dv hc).1 (Int.le_refl _)
theorem le_up_mul (b : Int) {c : Int} (hc : 0 < c) : b ≤ -(-b / c) * c := (up_le hc).1 (Int.le_refl _)
section
variable {x m : Int} {D : Nat → Int}
theorem dnS_nonneg (hx : 0 ≤ x) (hm : 0 ≤ m) (hD : ∀ k, 0 < D k) : ∀ k, 0 ≤ dnS x m D k
 | 0 => hx
 | k + 1 => Int.ediv_nonneg (Int.mul_nonneg (dnS_nonneg hx hm hD k) hm) (Int.le_of_lt (hD k))
theorem dn_le_up (hx : 0 ≤ x) (hm : 0 ≤ m) (hD : ∀ k, 0 < D k) : ∀ k, dnS x m D k ≤ upS x m D k
 | 0 => Int.le_refl _
 | k + 1 => by
  have h1 := dn_le_up hx hm hD k
  have h2 : dnS x m D k * m ≤ upS x m D k * m := Int.mul_le_mul_of_nonneg_right h1 hm
  have h3 := dv_mul_le (dnS x m D k * m) (hD k)
  have h4 := le_up_mul (upS x m D k * m) (hD k)
  exact Int.le_of_mul_le_mul_right (by simp only [dnS, upS]; omega) (hD k)
theorem upS_nonneg (hx : 0 ≤ x) (hm : 0 ≤ m) (hD : ∀ k, 0 < D k) (k : Nat) : 0 ≤ upS x m D k := Int.le_trans (dnS_nonneg hx hm hD k) (dn_le_up hx hm hD k)
end
section
variable {f g : Nat → Int}
end
def twP (q : Nat) : Int := 2 ^ q
def exU (t : Int) (q : Nat) : Nat → Int := dnS (twP q) t (fun k => (k + 1) * twP q)
def exV (t : Int) (q : Nat) : Nat → Int := upS (twP q) t (fun k => (k + 1) * twP q)
def taU (t : Int) (q : Nat) : Nat → Int := dnS t (t * t) (fun _ => twP q * twP q)
def taV (t : Int) (q : Nat) : Nat → Int := upS t (t * t) (fun _ => twP q * twP q)
def taC (t : Int) (q : Nat) (k : Nat) : Int := taU t q k / (2 * k + 1)
def taD (t : Int) (q : Nat) (k : Nat) : Int := -(-taV t q k / (2 * k + 1))
def snU (t : Int) (q : Nat) : Nat → Int := dnS t (t * t) (fun k => (2 * k + 2) * (2 * k + 3) * (twP q * twP q))
def snV (t : Int) (q : Nat) : Nat → Int := upS t (t * t) (fun k => (2 * k + 2) * (2 * k + 3) * (twP q * twP q))
def csU (t : Int) (q : Nat) : Nat → Int := dnS (twP q) (t * t) (fun k => (2 * k + 1) * (2 * k + 2) * (twP q * twP q))
def csV (t : Int) (q : Nat) : Nat → Int := upS (twP q) (t * t) (fun k => (2 * k + 1) * (2 * k + 2) * (twP q * twP q))
def rwLo (kind : Nat) (t : Int) (q n : Nat) : Int := match kind with
 | 0 => sumI (exU t q) n
 | 1 => sumI (taC t q) n
 | 2 => altI (taC t q) (taD t q) (2 * n)
 | 3 => altI (snU t q) (snV t q) (2 * n)
 | _ => altI (csU t q) (csV t q) (2 * n)
def rwHi (kind : Nat) (t : Int) (q n : Nat) : Int := match kind with
 | 0 => sumI (exV t q) n + 2 * exV t q n
 | 1 => sumI (taD t q) n + 2 * taD t q n
 | 2 => altI (taD t q) (taC t q) (2 * n + 1)
 | 3 => altI (snV t q) (snU t q) (2 * n + 1)
 | _ => altI (csV t q) (csU t q) (2 * n + 1)
theorem tw_pos (q : Nat) : 0 < twP q := Int.pow_pos (by omega)
theorem tw_add (q s : Nat) : twP (q + s) = twP q * twP s := Int.pow_add ..
theorem two_pos (k : Nat) : (0 : Int) < 2 * k + 1 := by omega
theorem ex_pos (q k : Nat) : (0 : Int) < (k + 1) * twP q := Int.mul_pos (by omega) (tw_pos q)
theorem ta_pos (q : Nat) : (0 : Int) < twP q * twP q := Int.mul_pos (tw_pos q) (tw_pos q)
section
variable {t : Int} {q : Nat}
theorem ta_c_nonneg (h0 : 0 ≤ t) (k : Nat) : 0 ≤ taC t q k := Int.ediv_nonneg (dnS_nonneg h0 (Int.mul_nonneg h0 h0) (fun _ => ta_pos q) k) (Int.le_of_lt (two_pos k))
theorem ta_c_d (h0 : 0 ≤ t) (k : Nat) : taC t q k ≤ taD t q k := by
 have h1 := dn_le_up h0 (Int.mul_nonneg h0 h0) (fun _ => ta_pos q) k
 have h2 := dv_mul_le (taU t q k) (two_pos k)
 have h3 := le_up_mul (taV t q k) (two_pos k)
 refine Int.le_of_mul_le_mul_right (a := 2 * (k : Int) + 1) ?_ (two_pos k)
 unfold taC taD taU taV at *
 omega
end
section
variable {t : Int} {q : Nat}
end
section
variable {x m M : Int} {D : Nat → Int}
theorem upS_step (hx : 0 ≤ x) (hm : 0 ≤ m) (hD : ∀ k, 0 < D k) (k : Nat) (hd : m ≤ D k) : upS x m D (k + 1) ≤ upS x m D k := by
 have h0 := upS_nonneg hx hm hD k
 show -(-(upS x m D k * m) / D k) ≤ upS x m D k
 rw [up_le (hD k)]
 exact Int.mul_le_mul_of_nonneg_left hd h0
theorem upS_le (hx : 0 ≤ x) (hm : 0 ≤ m) (hD : ∀ k, 0 < D k) (hd : ∀ k, m ≤ D k) (hM : x ≤ M) : ∀ k, upS x m D k ≤ M
 | 0 => hM
 | k + 1 => Int.le_trans (upS_step hx hm hD k (hd k)) (upS_le hx hm hD hd hM k)
end
theorem sum_bd {f : Nat → Int} {M : Int} (h0 : ∀ k, 0 ≤ f k) (h : ∀ k, f k ≤ M) : ∀ n : Nat, 0 ≤ sumI f n ∧ sumI f n ≤ n * M
 | 0 => by simp [sumI]
 | n + 1 => by
  have ih := sum_bd h0 h n
  have h1 := h0 n; have h2 := h n
  have e : ((n + 1 : Nat) : Int) * M = n * M + M := by rw [Int.natCast_add, Int.add_mul]; simp
  simp only [sumI]
  rw [e]
  omega
section
variable {t : Int} {q : Nat}
theorem ex_bd (h0 : 0 ≤ t) (h : t ≤ twP q) (k : Nat) : 0 ≤ exU t q k ∧ exU t q k ≤ exV t q k ∧ exV t q k ≤ twP q := by
 have hp := Int.le_of_lt (tw_pos q)
 refine ⟨dnS_nonneg hp h0 (ex_pos q) k, dn_le_up hp h0 (ex_pos q) k, upS_le hp h0 (ex_pos q) (fun k => ?_) (Int.le_refl _) k⟩
 have := Int.mul_nonneg (show (0 : Int) ≤ k by omega) hp
 rw [Int.add_mul]
 omega
theorem ta_bd (h0 : 0 ≤ t) (h : t ≤ twP q) (k : Nat) : 0 ≤ taU t q k ∧ taU t q k ≤ taV t q k ∧ taV t q k ≤ twP q := by
 have ht := Int.mul_nonneg h0 h0
 exact ⟨dnS_nonneg h0 ht (fun _ => ta_pos q) k, dn_le_up h0 ht (fun _ => ta_pos q) k, upS_le h0 ht (fun _ => ta_pos q) (fun _ => Int.mul_le_mul h h h0 (by omega)) h k⟩
end
end Go.Proofs.YtdonaominffpnaaGreatDoor
