/-
 consts: numbers; balls handed back.
-/
import Derived.Test.YtdonaominffpnaaGreatDoorRwm
import Derived.Test.YtdonaominffpnaaGreatDoorKfiv
import Derived.Test.YtdonaominffpnaaGreatDoorPg
import Derived.Test.YtdonaominffpnaaGreatDoorEbox
namespace Go.Proofs.YtdonaominffpnaaGreatDoor
variable {k u v : Nat}
set_option maxRecDepth 100000
set_option linter.unusedVariables false
def cdN (a b : Nat) : Nat := (a + b - 1) / b
theorem cdN_is (a b : Nat) (hb : 0 < b) : ((cdN a b : Nat) : Int) = -(-(a : Int) / (b : Int)) := by
 have e := Nat.div_add_mod (a + b - 1) b
 have r := Nat.mod_lt (a + b - 1) hb
 unfold cdN
 generalize (a + b - 1) / b = X at *
 generalize (a + b - 1) % b = y at *
 have e2 : (b : Int) * X + y = a + b - 1 := by
  have : ((b * X + y : Nat) : Int) = ((a + b - 1 : Nat) : Int) := by rw [e]
  rw [Int.natCast_add, Int.natCast_mul, Int.natCast_sub (by omega)] at this
  push_cast at this
  omega
 have h : (-(a : Int)) / (b : Int) = -(X : Int) := by
  refine ((Int.ediv_emod_unique (r := (b : Int) * X - a) (by omega)).2 ⟨?_, ?_, ?_⟩).1
  ·rw [Int.mul_neg]; omega
  ·omega
  ·omega
 rw [h]; omega
def sdN (s P : Nat) : Nat → Nat → Nat → Nat
 | 0, _, _ => 0
 | n + 1, d, u => u / d + sdN s P n (d + 2) (u * s / P)
def suN (s P : Nat) : Nat → Nat → Nat → Nat
 | 0, d, v => 2 * cdN v d
 | n + 1, d, v => cdN v d + suN s P n (d + 2) (cdN (v * s) P)
section
variable {t q : Nat}
theorem twN (q : Nat) : ((2 ^ q : Nat) : Int) = twP q := by unfold twP; push_cast; rfl
theorem taU_N (hu : taU t q k = u) : taU t q (k + 1) = ((u * (t * t) / (2 ^ q * 2 ^ q) : Nat) : Int) := by
 show taU t q k * ((t : Int) * t) / (twP q * twP q) = _
 rw [hu, Int.natCast_ediv, Int.natCast_mul, Int.natCast_mul, Int.natCast_mul, twN]
theorem taV_N (hv : taV t q k = v) : taV t q (k + 1) = ((cdN (v * (t * t)) (2 ^ q * 2 ^ q) : Nat) : Int) := by
 show -(-(taV t q k * ((t : Int) * t)) / (twP q * twP q)) = _
 rw [hv, cdN_is _ _ (Nat.mul_pos (Nat.two_pow_pos q) (Nat.two_pow_pos q)), Int.natCast_mul, Int.natCast_mul, Int.natCast_mul, twN]
theorem taC_N (hu : taU t q k = u) : taC t q k = ((u / (2 * k + 1) : Nat) : Int) := by
 unfold taC
 rw [hu, Int.natCast_ediv]; push_cast; rfl
theorem taD_N (hv : taV t q k = v) : taD t q k = ((cdN v (2 * k + 1) : Nat) : Int) := by
 unfold taD
 rw [hv, cdN_is _ _ (by omega)]; push_cast; rfl
theorem sdN_is (n : Nat) : ∀ {k u : Nat}, taU t q k = u → ((sdN (t * t) (2 ^ q * 2 ^ q) n (2 * k + 1) u : Nat) : Int) + sumI (taC t q) k = sumI (taC t q) (k + n) := by
 induction n with
 | zero => intro k u _; simp [sdN]
 | succ n ih =>
  intro k u hu
  have h := ih (taU_N hu)
  rw [show 2 * (k + 1) + 1 = 2 * k + 1 + 2 by omega, show k + 1 + n = k + (n + 1) by omega] at h
  rw [← h]
  show (((u / (2 * k + 1) + _ : Nat)) : Int) + _ = _ + (sumI (taC t q) k + taC t q k)
  rw [taC_N hu, Int.natCast_add]; omega
theorem suN_is (n : Nat) : ∀ {k v : Nat}, taV t q k = v → ((suN (t * t) (2 ^ q * 2 ^ q) n (2 * k + 1) v : Nat) : Int) + sumI (taD t q) k = sumI (taD t q) (k + n) + 2 * taD t q (k + n) := by
 induction n with
 | zero =>
  intro k v hv
  show ((2 * cdN v (2 * k + 1) : Nat) : Int) + _ = sumI _ k + 2 * taD t q k
  rw [taD_N hv]; omega
 | succ n ih =>
  intro k v hv
  have h := ih (taV_N hv)
  rw [show 2 * (k + 1) + 1 = 2 * k + 1 + 2 by omega, show k + 1 + n = k + (n + 1) by omega] at h
  rw [← h]
  show (((cdN v (2 * k + 1) + _ : Nat)) : Int) + _ = _ + (sumI (taD t q) k + taD t q k)
  rw [taD_N hv, Int.natCast_add]; omega
end
def lnLo (w : Nat) : Int := rwLo 1 ((2 ^ w / 3 : Nat) : Int) w (w / 3 + 2)
def lnHi (w : Nat) : Int := rwHi 1 ((2 ^ w / 3 + 1 : Nat) : Int) w (w / 3 + 2)
theorem lnLo_N (w : Nat) : lnLo w = ((sdN (2 ^ w / 3 * (2 ^ w / 3)) (2 ^ w * 2 ^ w) (w / 3 + 2) 1 (2 ^ w / 3) : Nat) : Int) := by
 have h := sdN_is (t := 2 ^ w / 3) (q := w) (w / 3 + 2) (k := 0) rfl
 simp only [Nat.zero_add] at h
 show sumI _ _ = _
 rw [← h]
 exact Int.add_zero _
theorem lnHi_N (w : Nat) : lnHi w = ((suN ((2 ^ w / 3 + 1) * (2 ^ w / 3 + 1)) (2 ^ w * 2 ^ w) (w / 3 + 2) 1 (2 ^ w / 3 + 1) : Nat) : Int) := by
 have h := suN_is (t := 2 ^ w / 3 + 1) (q := w) (w / 3 + 2) (k := 0) rfl
 simp only [Nat.zero_add] at h
 show sumI _ _ + 2 * _ = _
 rw [← h]
 exact Int.add_zero _
def lnN (w : Nat) : Int × Int := ((sdN (2 ^ w / 3 * (2 ^ w / 3)) (2 ^ w * 2 ^ w) (w / 3 + 2) 1 (2 ^ w / 3) : Nat), (suN ((2 ^ w / 3 + 1) * (2 ^ w / 3 + 1)) (2 ^ w * 2 ^ w) (w / 3 + 2) 1 (2 ^ w / 3 + 1) : Nat))
def lnA (q : Nat) : Int := 2 * lnLo (q + 16) / 65536
def lnZ (q : Nat) : Int := -(-(2 * lnHi (q + 16)) / 65536)
def lnCk (q : Nat) : Bool := match lnN (q + 16), ((2 ^ q : Nat) : Int) with
 | (a, z), t => decide (a ≤ z) && decide (69 * t ≤ 100 * -(-(2 * z) / 65536)) && decide (100 * (2 * a / 65536) ≤ 70 * t) && decide (2 * a / 65536 ≤ -(-(2 * z) / 65536)) && decide (-(-(2 * z) / 65536) ≤ 2 * a / 65536 + 2)
theorem ln_all : (List.range 341).all lnCk = true := by decide +kernel
theorem ln_in {q : Nat} (hq : q < 341) : lnLo (q + 16) ≤ lnHi (q + 16) ∧ 69 * twP q ≤ 100 * lnZ q ∧ 100 * lnA q ≤ 70 * twP q ∧ lnA q ≤ lnZ q ∧ lnZ q ≤ lnA q + 2 := by
 have h := List.all_eq_true.1 ln_all q (by simpa using hq)
 unfold lnCk lnN at h
 unfold lnA lnZ
 rw [lnLo_N, lnHi_N, ← twN]
 simp only [Bool.and_eq_true, decide_eq_true_eq, and_assoc] at h
 exact h
end Go.Proofs.YtdonaominffpnaaGreatDoor
namespace Go.Proofs.YtdonaominffpnaaGreatDoor
set_option linter.unusedVariables false
open Go.RowKit
def OuB (w : World) (X Y q : Int) (k : Nat) (e : Ending) (w' : World) : Prop := ∃ A n c A2 n2 c2, e = .returned (.agg #[.bool (ngB X), .slice A n c, .bool (ngB Y), .slice A2 n2 c2, .int .i64 q]) ∧ Zn w' A n c X k ∧ Zn w' A2 n2 c2 Y k ∧ Below w.heap.size w w'
def ptN (w m : Nat) : Int := ((2 ^ w / m : Nat) : Int)
theorem pt_bd {w m : Nat} (hw : 16 ≤ w ∧ w ≤ 1000) (hm : 3 ≤ m) : 0 ≤ ptN w m ∧ 2 * (ptN w m + 1) ≤ twP w ∧ 2 * ptN w m ≤ twP w := by
 have h1 : 2 ^ w / m ≤ 2 ^ w / 3 := Nat.div_le_div_left hm (by omega)
 have h2 : 2 ^ 4 ≤ 2 ^ w := Nat.pow_le_pow_right (by omega) (by omega)
 have h3 : 2 ^ w / m * 3 ≤ 2 ^ w := Nat.le_trans (Nat.mul_le_mul_right 3 h1) (Nat.div_mul_le_self _ _)
 have h4 : (((2 ^ w : Nat)) : Int) = twP w := twN w
 unfold ptN
 generalize 2 ^ w / m = d at *
 generalize 2 ^ w = T at *
 omega
theorem fl16 (X : Int) (q : Int) : flI X (-(q + 16) + q) = X / 65536 := by
 unfold flI
 rw [if_pos (by omega), show (-(-(q + 16) + q)).toNat = 16 by omega]; rfl
theorem rw_si {kind : Nat} (hk : kind = 1) {t : Int} {q n : Nat} (h0 : 0 ≤ t) (h : t ≤ twP q) (hq : q ≤ 1200) (hn : n ≤ 400) : Si (rwLo kind t q n) 20 ∧ Si (rwHi kind t q n) 20 := by
 have b := fun k => ta_cd2 h0 h k
 have p := tw_pos q
 subst hk
 have s1 := sum_bd (fun k => (b k).1) (fun k => Int.le_trans (b k).2.1 (b k).2.2) n
 have s2 := sum_bd (fun k => Int.le_trans (b k).1 (b k).2.1) (fun k => (b k).2.2) n
 have b2 := b n
 have e : ((n + 2 : Nat) : Int) * twP q = n * twP q + 2 * twP q := by push_cast; grind
 have m0 := Int.mul_nonneg (show (0 : Int) ≤ n by omega) (Int.le_of_lt p)
 exact ⟨si_tw (K := n + 2) (by omega) hq (by show sumI _ _ ≤ _; omega) (by show _ ≤ sumI _ _; omega), si_tw (K := n + 2) (by omega) hq (by show sumI _ _ + 2 * taD t q n ≤ _; omega) (by show _ ≤ sumI _ _ + 2 * taD t q n; omega)⟩
end Go.Proofs.YtdonaominffpnaaGreatDoor
