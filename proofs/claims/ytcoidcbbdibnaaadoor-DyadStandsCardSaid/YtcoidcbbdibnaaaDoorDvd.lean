/-
  What dyads are worth, as integers: each times 2 ^ 4000. Plain mathematics over the answers of dyad's functions.
-/
import Derived.Test.YtcoidcbbdibnaaaDoorDadd
import Derived.Test.YtcoidcbbdibnaaaDoorDfun
namespace Go.Proofs.YtcoidcbbdibnaaaDoor
set_option linter.unusedVariables false

/-- A dyad's number, times 2 ^ 4000. -/
def vd (X e : Int) : Int := X * 2 ^ (e + 4000).toNat
theorem vd_zero (e : Int) : vd 0 e = 0 := by unfold vd; rw [Int.zero_mul]
theorem ipow_add (a b : Nat) : (2 : Int) ^ a * 2 ^ b = 2 ^ (a + b) := (Int.pow_add 2 a b).symm
theorem sgnI_mulpow (Z : Int) (k : Nat) : sgnI (Z * 2 ^ k) = sgnI Z := by
  have hp := two_pow_pos k
  rcases Int.lt_trichotomy Z 0 with h | h | h
  · have : Z * 2 ^ k < 0 := Int.mul_neg_of_neg_of_pos h hp
    unfold sgnI; rw [if_pos h, if_pos this]
  · subst h; rw [Int.zero_mul]
  · have : 0 < Z * 2 ^ k := Int.mul_pos h hp
    unfold sgnI; rw [if_neg (by omega), if_neg (by omega), if_neg (by omega), if_neg (by omega)]
/-- Raised to a lower exponent. -/
theorem vd_low {X e m : Int} (h : m ≤ e) (hm : -4000 ≤ m) : vd (X * 2 ^ (e - m).toNat) m = vd X e := by
  unfold vd
  rw [Int.mul_assoc, ipow_add]
  congr 2
  omega
theorem vd_add (X Y e : Int) : vd (X + Y) e = vd X e + vd Y e := by unfold vd; rw [Int.add_mul]
theorem vd_sub (X Y e : Int) : vd (X - Y) e = vd X e - vd Y e := by unfold vd; rw [Int.sub_mul]
theorem vd_neg (X e : Int) : vd (-X) e = -vd X e := by unfold vd; rw [Int.neg_mul]
theorem vd_sgn (X e : Int) : sgnI (vd X e) = sgnI X := sgnI_mulpow _ _
theorem vd_mul {X Y e f : Int} (he : -4000 ≤ e) (hf : -4000 ≤ f) (h : -4000 ≤ e + f) : vd X e * vd Y f = vd (X * Y) (e + f) * 2 ^ 4000 := by
  unfold vd
  rw [Int.mul_assoc (X * Y), ipow_add, show X * 2 ^ (e + 4000).toNat * (Y * 2 ^ (f + 4000).toNat) = X * Y * (2 ^ (e + 4000).toNat * 2 ^ (f + 4000).toNat) by
    rw [Int.mul_assoc, Int.mul_left_comm (2 ^ (e + 4000).toNat) Y, ← Int.mul_assoc], ipow_add]
  congr 2
  omega
theorem vd_nf {X e : Int} (he : -4000 ≤ e) : vd (od X) (nE X e) = vd X e := by
  by_cases h : X = 0
  · subst h; rw [od_zero, vd_zero, vd_zero]
  · rw [nE_ne h]
    unfold vd
    conv => rhs; rw [(tz_spec h).1]
    rw [Int.mul_assoc, ipow_add]
    congr 2
    omega
theorem vd_same {X Y e f : Int} (he : -4000 ≤ e) (hf : -4000 ≤ f) (h : vd X e = vd Y f) : od X = od Y ∧ nE X e = nE Y f :=
  nf_same (m := -4000) (a := (e + 4000).toNat) (b := (f + 4000).toNat) h (by omega) (by omega)
theorem vd_shl (X e : Int) (k : Nat) (h : -4000 ≤ e - k) : vd (X * 2 ^ k) (e - k) = vd X e := by
  unfold vd
  rw [Int.mul_assoc, ipow_add]
  congr 2
  omega
/-- An exponent that counts. -/
def In (e : Int) : Prop := -4000 ≤ e ∧ e ≤ 4000
theorem al_in {e f : Int} (he : In e) (hf : In f) : alE e f = min e f := by unfold alE; rw [(c_yes (X := 0) he).2, (c_yes (X := 0) hf).2]
theorem alP_vd {X e f : Int} (he : In e) (hf : In f) : vd (alP X e f) (alE e f) = vd X e := by
  unfold alP
  rw [al_in he hf, (c_yes (X := X) he).1, (c_yes (X := X) he).2]
  unfold In at he hf
  exact vd_low (by omega) (by omega)
theorem alQ_vd {Y e f : Int} (he : In e) (hf : In f) : vd (alQ Y e f) (alE e f) = vd Y f := by
  unfold alQ
  rw [al_in he hf, (c_yes (X := Y) hf).1, (c_yes (X := Y) hf).2]
  unfold In at he hf
  exact vd_low (by omega) (by omega)
theorem cmp_vd {X Y e f : Int} (he : In e) (hf : In f) : sgnI (alP X e f - alQ Y e f) = sgnI (vd X e - vd Y f) := by
  rw [← alP_vd (X := X) he hf, ← alQ_vd (Y := Y) he hf, ← vd_sub, vd_sgn]
theorem add_vd {X Y e f : Int} (he : In e) (hf : In f) : vd (alP X e f + alQ Y e f) (alE e f) = vd X e + vd Y f := by rw [vd_add, alP_vd he hf, alQ_vd he hf]
theorem sub_vd {X Y e f : Int} (he : In e) (hf : In f) : vd (alP X e f - alQ Y e f) (alE e f) = vd X e - vd Y f := by rw [vd_sub, alP_vd he hf, alQ_vd he hf]
theorem sgn_od (X : Int) : sgnI (od X) = sgnI X := by
  by_cases h : X = 0
  · subst h; rw [od_zero]
  · conv => rhs; rw [(tz_spec h).1]
    rw [sgnI_mulpow]
/-- A number of less than k bits. -/
def Bt (X : Int) (k : Nat) : Prop := X.natAbs < 2 ^ k
theorem Bt.tzlt {X : Int} {k : Nat} (h : Bt X k) (h0 : X ≠ 0) : tz X < k := by
  have h1 := congrArg Int.natAbs (tz_spec h0).1
  rw [Int.natAbs_mul, pow_cast, Int.natAbs_natCast] at h1
  have h2 : 0 < (od X).natAbs := by have := od_ne h0; omega
  have h3 : 2 ^ tz X ≤ X.natAbs := by rw [h1]; exact Nat.le_mul_of_pos_left _ h2
  exact (Nat.pow_lt_pow_iff_right (by omega)).1 (Nat.lt_of_le_of_lt h3 h)
theorem Bt.of_si {X : Int} {j : Nat} (h : Si X j) : Bt X (64 * j) := by
  unfold Bt; unfold Si Sm at h; rw [Nat.pow_mul]; exact h
theorem Bt.pow {X : Int} {k : Nat} (h : Bt X k) (s : Nat) : Bt (X * 2 ^ s) (k + s) := by
  unfold Bt at *
  rw [Int.natAbs_mul, pow_cast, Int.natAbs_natCast, Nat.pow_add]
  exact Nat.mul_lt_mul_of_pos_right h (Nat.two_pow_pos s)
theorem Bt.mono {X : Int} {k l : Nat} (h : Bt X k) (hl : k ≤ l) : Bt X l := Nat.lt_of_lt_of_le h (Nat.pow_le_pow_right (by omega) hl)
theorem Bt.add {X Y : Int} {k : Nat} (h : Bt X k) (h2 : Bt Y k) : Bt (X + Y) (k + 1) := by
  unfold Bt at *; rw [Nat.pow_succ]; omega
theorem Bt.sub {X Y : Int} {k : Nat} (h : Bt X k) (h2 : Bt Y k) : Bt (X - Y) (k + 1) := by
  unfold Bt at *; rw [Nat.pow_succ]; omega
theorem Bt.neg {X : Int} {k : Nat} (h : Bt X k) : Bt (-X) k := by unfold Bt at *; omega
theorem Bt.mul {X Y : Int} {k l : Nat} (h : Bt X k) (h2 : Bt Y l) : Bt (X * Y) (k + l) := by
  unfold Bt at *; rw [Int.natAbs_mul, Nat.pow_add]; exact Nat.mul_lt_mul'' h h2
theorem Bt.odd {X : Int} {k : Nat} (h : Bt X k) : Bt (od X) k := Nat.lt_of_le_of_lt (od_abs X) h
theorem nE_in {X e : Int} {k : Nat} (h : Bt X k) (h0 : -4000 ≤ e) (h1 : e + k ≤ 4000) (h2 : e ≤ 4000) : In (nE X e) := by
  unfold In nE
  split
  · omega
  · have := h.tzlt ‹_›; omega
theorem nE_le {X e : Int} {k : Nat} (h : Bt X k) {lo hi : Int} (h0 : lo ≤ e) (h1 : e + k ≤ hi) (h2 : lo ≤ 0) (h3 : 0 ≤ hi) : lo ≤ nE X e ∧ nE X e ≤ hi := by
  unfold nE
  split
  · omega
  · have := h.tzlt ‹_›; omega
theorem alP_bt {X e f : Int} {k s : Nat} (h : Bt X k) (he : In e) (hf : In f) (hs : e - f ≤ s) : Bt (alP X e f) (k + s) := by
  unfold alP
  rw [al_in he hf, (c_yes (X := X) he).1, (c_yes (X := X) he).2]
  exact (h.pow _).mono (by omega)
theorem alQ_bt {Y e f : Int} {k s : Nat} (h : Bt Y k) (he : In e) (hf : In f) (hs : f - e ≤ s) : Bt (alQ Y e f) (k + s) := by
  unfold alQ
  rw [al_in he hf, (c_yes (X := Y) hf).1, (c_yes (X := Y) hf).2]
  exact (h.pow _).mono (by omega)
theorem tmod_in (e : Int) (k : Int) (hk : 0 < k) : -k < e.tmod k ∧ e.tmod k < k := by
  have h1 := Int.natAbs_tmod e k
  have h2 : e.natAbs % k.natAbs < k.natAbs := Nat.mod_lt _ (by omega)
  omega
end Go.Proofs.YtcoidcbbdibnaaaDoor
