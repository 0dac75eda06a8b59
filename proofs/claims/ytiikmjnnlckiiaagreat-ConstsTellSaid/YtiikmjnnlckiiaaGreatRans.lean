/-
 rows: two integers and an error.
-/
import Derived.Test.YtiikmjnnlckiiaaGreatPa
import Derived.Test.YtiikmjnnlckiiaaGreatPc
namespace Go.Proofs.YtiikmjnnlckiiaaGreat
set_option linter.unusedVariables false

/-- The sum of the first n terms. -/
def sumI (f : Nat → Int) : Nat → Int
 | 0 => 0
 | n + 1 => sumI f n + f n
/-- The sum of the first n terms with changing signs: e at even places, o taken away at odd ones. -/
def altI (e o : Nat → Int) : Nat → Int
 | 0 => 0
 | n + 1 => altI e o n + (if n % 2 = 0 then e n else -o n)
/-- Terms rounded down: x, then each the one before times m, divided by its divisor. -/
def dnS (x m : Int) (D : Nat → Int) : Nat → Int
 | 0 => x
 | k + 1 => dnS x m D k * m / D k
/-- Likewise, rounded up. -/
def upS (x m : Int) (D : Nat → Int) : Nat → Int
 | 0 => x
 | k + 1 => -(-(upS x m D k * m) / D k)
theorem le_dv {a b c : Int} (hc : 0 < c) : a ≤ b / c ↔ a * c ≤ b := Int.le_ediv_iff_mul_le hc
theorem up_le {a b c : Int} (hc : 0 < c) : -(-b / c) ≤ a ↔ b ≤ a * c := by
 have h := le_dv (a := -a) (b := -b) hc
 rw [Int.neg_mul] at h
 constructor
 ·intro h1; have := h.1 (by omega); omega
 ·intro h1; have := h.2 (by omega); omega
theorem dv_mul_le (b : Int) {c : Int} (hc : 0 < c) : b / c * c ≤ b := (le_dv hc).1 (Int.le_refl _)
theorem le_up_mul (b : Int) {c : Int} (hc : 0 < c) : b ≤ -(-b / c) * c := (up_le hc).1 (Int.le_refl _)
section
variable {x m : Int} {D : Nat → Int}
theorem dnS_nonneg (hx : 0 ≤ x) (hm : 0 ≤ m) (hD : ∀ k, 0 < D k) : ∀ k, 0 ≤ dnS x m D k
 | 0 => hx
 | k + 1 => Int.ediv_nonneg (Int.mul_nonneg (dnS_nonneg hx hm hD k) hm) (Int.le_of_lt (hD k))
theorem dn_le_up (hx : 0 ≤ x) (hm : 0 ≤ m) (hD : ∀ k, 0 < D k) : ∀ k, dnS x m D k ≤ upS x m D k
 | 0 => Int.le_refl _
 | k + 1 => by
  have h1 := dn_le_up hx hm hD k
  have h2 : dnS x m D k * m ≤ upS x m D k * m := Int.mul_le_mul_of_nonneg_right h1 hm
  have h3 := dv_mul_le (dnS x m D k * m) (hD k)
  have h4 := le_up_mul (upS x m D k * m) (hD k)
  exact Int.le_of_mul_le_mul_right (by simp only [dnS, upS]; omega) (hD k)
theorem upS_nonneg (hx : 0 ≤ x) (hm : 0 ≤ m) (hD : ∀ k, 0 < D k) (k : Nat) : 0 ≤ upS x m D k := Int.le_trans (dnS_nonneg hx hm hD k) (dn_le_up hx hm hD k)
end
section
variable {f g : Nat → Int}
end

/-- The five sums' terms, rounded down and up: of which power, which first one, which multiplier, which divisors. -/
def twP (q : Nat) : Int := 2 ^ q
def exU (t : Int) (q : Nat) : Nat → Int := dnS (twP q) t (fun k => (k + 1) * twP q)
def exV (t : Int) (q : Nat) : Nat → Int := upS (twP q) t (fun k => (k + 1) * twP q)
def taU (t : Int) (q : Nat) : Nat → Int := dnS t (t * t) (fun _ => twP q * twP q)
def taV (t : Int) (q : Nat) : Nat → Int := upS t (t * t) (fun _ => twP q * twP q)
def taC (t : Int) (q : Nat) (k : Nat) : Int := taU t q k / (2 * k + 1)
def taD (t : Int) (q : Nat) (k : Nat) : Int := -(-taV t q k / (2 * k + 1))
def snU (t : Int) (q : Nat) : Nat → Int := dnS t (t * t) (fun k => (2 * k + 2) * (2 * k + 3) * (twP q * twP q))
def snV (t : Int) (q : Nat) : Nat → Int := upS t (t * t) (fun k => (2 * k + 2) * (2 * k + 3) * (twP q * twP q))
def csU (t : Int) (q : Nat) : Nat → Int := dnS (twP q) (t * t) (fun k => (2 * k + 1) * (2 * k + 2) * (twP q * twP q))
def csV (t : Int) (q : Nat) : Nat → Int := upS (twP q) (t * t) (fun k => (2 * k + 1) * (2 * k + 2) * (twP q * twP q))
/-- The five sums: Exp, Atanh, Atan, Sin, Cos. -/
def rwLo (kind : Nat) (t : Int) (q n : Nat) : Int := match kind with
 | 0 => sumI (exU t q) n
 | 1 => sumI (taC t q) n
 | 2 => altI (taC t q) (taD t q) (2 * n)
 | 3 => altI (snU t q) (snV t q) (2 * n)
 | _ => altI (csU t q) (csV t q) (2 * n)
def rwHi (kind : Nat) (t : Int) (q n : Nat) : Int := match kind with
 | 0 => sumI (exV t q) n + 2 * exV t q n
 | 1 => sumI (taD t q) n + 2 * taD t q n
 | 2 => altI (taD t q) (taC t q) (2 * n + 1)
 | 3 => altI (snV t q) (snU t q) (2 * n + 1)
 | _ => altI (csV t q) (csU t q) (2 * n + 1)
theorem tw_pos (q : Nat) : 0 < twP q := Int.pow_pos (by omega)
theorem two_pos (k : Nat) : (0 : Int) < 2 * k + 1 := by omega
theorem ta_pos (q : Nat) : (0 : Int) < twP q * twP q := Int.mul_pos (tw_pos q) (tw_pos q)
section
variable {t : Int} {q : Nat}
theorem ta_c_nonneg (h0 : 0 ≤ t) (k : Nat) : 0 ≤ taC t q k := Int.ediv_nonneg (dnS_nonneg h0 (Int.mul_nonneg h0 h0) (fun _ => ta_pos q) k) (Int.le_of_lt (two_pos k))
theorem ta_c_d (h0 : 0 ≤ t) (k : Nat) : taC t q k ≤ taD t q k := by
 have h1 := dn_le_up h0 (Int.mul_nonneg h0 h0) (fun _ => ta_pos q) k
 have h2 := dv_mul_le (taU t q k) (two_pos k)
 have h3 := le_up_mul (taV t q k) (two_pos k)
 refine Int.le_of_mul_le_mul_right (a := 2 * (k : Int) + 1) ?_ (two_pos k)
 unfold taC taD taU taV at *
 omega
end
section
variable {t : Int} {q : Nat}
end
section
variable {x m M : Int} {D : Nat → Int}
theorem upS_step (hx : 0 ≤ x) (hm : 0 ≤ m) (hD : ∀ k, 0 < D k) (k : Nat) (hd : m ≤ D k) : upS x m D (k + 1) ≤ upS x m D k := by
 have h0 := upS_nonneg hx hm hD k
 show -(-(upS x m D k * m) / D k) ≤ upS x m D k
 rw [up_le (hD k)]
 exact Int.mul_le_mul_of_nonneg_left hd h0
theorem upS_le (hx : 0 ≤ x) (hm : 0 ≤ m) (hD : ∀ k, 0 < D k) (hd : ∀ k, m ≤ D k) (hM : x ≤ M) : ∀ k, upS x m D k ≤ M
 | 0 => hM
 | k + 1 => Int.le_trans (upS_step hx hm hD k (hd k)) (upS_le hx hm hD hd hM k)
end
theorem sum_bd {f : Nat → Int} {M : Int} (h0 : ∀ k, 0 ≤ f k) (h : ∀ k, f k ≤ M) : ∀ n : Nat, 0 ≤ sumI f n ∧ sumI f n ≤ n * M
 | 0 => by simp [sumI]
 | n + 1 => by
  have ih := sum_bd h0 h n
  have h1 := h0 n; have h2 := h n
  have e : ((n + 1 : Nat) : Int) * M = n * M + M := by rw [Int.natCast_add, Int.add_mul]; simp
  simp only [sumI]
  rw [e]
  omega
theorem alt_bd {e o : Nat → Int} {M : Int} (h0 : ∀ k, 0 ≤ e k) (h : ∀ k, e k ≤ M) (h1 : ∀ k, 0 ≤ o k) (h2 : ∀ k, o k ≤ M) : ∀ n : Nat, -(n * M) ≤ altI e o n ∧ altI e o n ≤ n * M
 | 0 => by simp [altI]
 | n + 1 => by
  have ih := alt_bd h0 h h1 h2 n
  have a1 := h0 n; have a2 := h n; have a3 := h1 n; have a4 := h2 n
  have e : ((n + 1 : Nat) : Int) * M = n * M + M := by rw [Int.natCast_add, Int.add_mul]; simp
  simp only [altI]
  rw [e]
  split <;> omega
section
variable {t : Int} {q : Nat}
theorem ta_bd (h0 : 0 ≤ t) (h : t ≤ twP q) (k : Nat) : 0 ≤ taU t q k ∧ taU t q k ≤ taV t q k ∧ taV t q k ≤ twP q := by
 have ht := Int.mul_nonneg h0 h0
 exact ⟨dnS_nonneg h0 ht (fun _ => ta_pos q) k, dn_le_up h0 ht (fun _ => ta_pos q) k, upS_le h0 ht (fun _ => ta_pos q) (fun _ => Int.mul_le_mul h h h0 (by omega)) h k⟩
end
end Go.Proofs.YtiikmjnnlckiiaaGreat
namespace Go.Proofs.YtiikmjnnlckiiaaGreat
open Go.RowKit
set_option linter.unusedVariables false

/-- Two integers and an error's number. -/
def Ou2 (w : World) (P Q x : Int) (k : Nat) (e : Ending) (w' : World) : Prop := ∃ A n c A2 n2 c2, e = .returned (.tuple #[.agg #[.bool (ngB P), .slice A n c], .agg #[.bool (ngB Q), .slice A2 n2 c2], .int .i64 x]) ∧ Zn w' A n c P k ∧ Zn w' A2 n2 c2 Q k ∧ Below w.heap.size w w'
/-- Block g is a box of the integer X, in normal form. -/
def Bn (w : World) (g : Nat) (X : Int) (k : Nat) : Prop := ∃ A n c, Bx w g (ngB X) A n c ∧ Zn w A n c X k
theorem si_twL {X : Int} {Q K L : Nat} (hK : K ≤ 2000) (hQ : Q + 11 ≤ 64 * L) (h : X ≤ K * twP Q) (h0 : -(K * twP Q) ≤ X) : Si X L := by
 have hp := tw_pos Q
 have h1 : X.natAbs ≤ K * 2 ^ Q := by
  have e : ((K * 2 ^ Q : Nat) : Int) = K * twP Q := by unfold twP; push_cast; rfl
  omega
 have h5 : Wd ^ L = 2 ^ (64 * L - Q) * 2 ^ Q := by rw [Wd_pow, ← Nat.pow_mul, ← Nat.pow_add, Nat.sub_add_cancel (by omega)]
 have h6 : 2 ^ 11 ≤ 2 ^ (64 * L - Q) := Nat.pow_le_pow_right Nat.zero_lt_two (by omega)
 have h7 : K < 2 ^ (64 * L - Q) := Nat.lt_of_lt_of_le (Nat.lt_of_le_of_lt hK (by decide)) h6
 show X.natAbs < Wd ^ L
 rw [h5]
 exact Nat.lt_of_le_of_lt h1 (Nat.mul_lt_mul_of_pos_right h7 (Nat.pow_pos Nat.zero_lt_two))
theorem si_tw {X : Int} {Q K : Nat} (hK : K ≤ 2000) (hQ : Q ≤ 1200) (h : X ≤ K * twP Q) (h0 : -(K * twP Q) ≤ X) : Si X 20 := si_twL hK (by omega) h h0
theorem Ou2.mk {w w' : World} {P Q P' Q' x : Int} {k n c n2 c2 : Nat} {A A2 : Option Addr} (e1 : P' = P) (e2 : Q' = Q) (z : Zn w' A n c P k) (z2 : Zn w' A2 n2 c2 Q k) (hb : Below w.heap.size w w') : Ou2 w P' Q' x k (.returned (.tuple #[.agg #[.bool (ngB P), .slice A n c], .agg #[.bool (ngB Q), .slice A2 n2 c2], .int .i64 x])) w' := by
 subst e1 e2
 exact ⟨_, _, _, _, _, _, rfl, z, z2, hb⟩
end Go.Proofs.YtiikmjnnlckiiaaGreat
