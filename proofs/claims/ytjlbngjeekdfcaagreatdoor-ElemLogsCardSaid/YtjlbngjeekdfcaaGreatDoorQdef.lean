/-
 consts: numbers; balls handed back.
-/
import Derived.Test.YtjlbngjeekdfcaaGreatDoorRwm
import Derived.Test.YtjlbngjeekdfcaaGreatDoorKfiv
import Derived.Test.YtjlbngjeekdfcaaGreatDoorPg
import Derived.Test.YtjlbngjeekdfcaaGreatDoorEbox
namespace Go.Proofs.YtjlbngjeekdfcaaGreatDoor
variable {k u v : Nat}
set_option maxRecDepth 100000
set_option linter.unusedVariables false
def cdN (a b : Nat) : Nat := (a + b - 1) / b
theorem cdN_is (a b : Nat) (hb : 0 < b) : ((cdN a b : Nat) : Int) = -(-(a : Int) / (b : Int)) := by
 have e := Nat.div_add_mod (a + b - 1) b
 have r := Nat.mod_lt (a + b - 1) hb
 unfold cdN
 generalize (a + b - 1) / b = X at *
 generalize (a + b - 1) % b = y at *
 have e2 : (b : Int) * X + y = a + b - 1 := by
  have : ((b * X + y : Nat) : Int) = ((a + b - 1 : Nat) : Int) := by rw [e]
  rw [Int.natCast_add, Int.natCast_mul, Int.natCast_sub (by omega)] at this
  push_cast at this
  omega
 have h : (-(a : Int)) / (b : Int) = -(X : Int) := by
  refine ((Int.ediv_emod_unique (r := (b : Int) * X - a) (by omega)).2 ⟨?_, ?_, ?_⟩).1
  ·rw [Int.mul_neg]; omega
  ·omega
  ·omega
 rw [h]; omega
def sdN (s P : Nat) : Nat → Nat → Nat → Nat
 | 0, _, _ => 0
 | n + 1, d, u => u / d + sdN s P n (d + 2) (u * s / P)
def suN (s P : Nat) : Nat → Nat → Nat → Nat
 | 0, d, v => 2 * cdN v d
 | n + 1, d, v => cdN v d + suN s P n (d + 2) (cdN (v * s) P)
def alN (s P : Nat) : Nat → Nat → Nat → Nat → Int
 | 0, _, _, _ => 0
 | n + 1, d, u, v => ((u / d : Nat) : Int) - ((cdN (cdN (v * s) P) (d + 2) : Nat) : Int) + alN s P n (d + 4) (u * s / P * s / P) (cdN (cdN (v * s) P * s) P)
def ahN (s P : Nat) : Nat → Nat → Nat → Nat → Int
 | 0, d, _, v => ((cdN v d : Nat) : Int)
 | n + 1, d, u, v => ((cdN v d : Nat) : Int) - ((u * s / P / (d + 2) : Nat) : Int) + ahN s P n (d + 4) (u * s / P * s / P) (cdN (cdN (v * s) P * s) P)
section
variable {t q : Nat}
theorem twN (q : Nat) : ((2 ^ q : Nat) : Int) = twP q := by unfold twP; push_cast; rfl
theorem taU_N (hu : taU t q k = u) : taU t q (k + 1) = ((u * (t * t) / (2 ^ q * 2 ^ q) : Nat) : Int) := by
 show taU t q k * ((t : Int) * t) / (twP q * twP q) = _
 rw [hu, Int.natCast_ediv, Int.natCast_mul, Int.natCast_mul, Int.natCast_mul, twN]
theorem taV_N (hv : taV t q k = v) : taV t q (k + 1) = ((cdN (v * (t * t)) (2 ^ q * 2 ^ q) : Nat) : Int) := by
 show -(-(taV t q k * ((t : Int) * t)) / (twP q * twP q)) = _
 rw [hv, cdN_is _ _ (Nat.mul_pos (Nat.two_pow_pos q) (Nat.two_pow_pos q)), Int.natCast_mul, Int.natCast_mul, Int.natCast_mul, twN]
theorem taC_N (hu : taU t q k = u) : taC t q k = ((u / (2 * k + 1) : Nat) : Int) := by
 unfold taC
 rw [hu, Int.natCast_ediv]; push_cast; rfl
theorem taD_N (hv : taV t q k = v) : taD t q k = ((cdN v (2 * k + 1) : Nat) : Int) := by
 unfold taD
 rw [hv, cdN_is _ _ (by omega)]; push_cast; rfl
theorem sdN_is (n : Nat) : ∀ {k u : Nat}, taU t q k = u → ((sdN (t * t) (2 ^ q * 2 ^ q) n (2 * k + 1) u : Nat) : Int) + sumI (taC t q) k = sumI (taC t q) (k + n) := by
 induction n with
 | zero => intro k u _; simp [sdN]
 | succ n ih =>
  intro k u hu
  have h := ih (taU_N hu)
  rw [show 2 * (k + 1) + 1 = 2 * k + 1 + 2 by omega, show k + 1 + n = k + (n + 1) by omega] at h
  rw [← h]
  show (((u / (2 * k + 1) + _ : Nat)) : Int) + _ = _ + (sumI (taC t q) k + taC t q k)
  rw [taC_N hu, Int.natCast_add]; omega
theorem suN_is (n : Nat) : ∀ {k v : Nat}, taV t q k = v → ((suN (t * t) (2 ^ q * 2 ^ q) n (2 * k + 1) v : Nat) : Int) + sumI (taD t q) k = sumI (taD t q) (k + n) + 2 * taD t q (k + n) := by
 induction n with
 | zero =>
  intro k v hv
  show ((2 * cdN v (2 * k + 1) : Nat) : Int) + _ = sumI _ k + 2 * taD t q k
  rw [taD_N hv]; omega
 | succ n ih =>
  intro k v hv
  have h := ih (taV_N hv)
  rw [show 2 * (k + 1) + 1 = 2 * k + 1 + 2 by omega, show k + 1 + n = k + (n + 1) by omega] at h
  rw [← h]
  show (((cdN v (2 * k + 1) + _ : Nat)) : Int) + _ = _ + (sumI (taD t q) k + taD t q k)
  rw [taD_N hv, Int.natCast_add]; omega
theorem alt_2 (f g : Nat → Int) (k : Nat) : altI f g (2 * (k + 1)) = altI f g (2 * k) + f (2 * k) - g (2 * k + 1) := by
 rw [show 2 * (k + 1) = 2 * k + 1 + 1 by omega]
 simp only [altI]
 rw [if_pos (by omega), if_neg (by omega)]; omega
theorem alN_is (n : Nat) : ∀ {k u v : Nat}, taU t q (2 * k) = u → taV t q (2 * k) = v → alN (t * t) (2 ^ q * 2 ^ q) n (4 * k + 1) u v + altI (taC t q) (taD t q) (2 * k) = altI (taC t q) (taD t q) (2 * (k + n)) := by
 induction n with
 | zero => intro k u v _ _; simp [alN]
 | succ n ih =>
  intro k u v hu hv
  have h := ih (k := k + 1) (taU_N (taU_N hu)) (taV_N (taV_N hv))
  rw [show 4 * (k + 1) + 1 = 4 * k + 1 + 4 by omega, show k + 1 + n = k + (n + 1) by omega, alt_2] at h
  rw [← h, taC_N hu, taD_N (taV_N hv), show 2 * (2 * k) + 1 = 4 * k + 1 by omega, show 2 * (2 * k + 1) + 1 = 4 * k + 1 + 2 by omega]
  show _ - _ + _ + _ = _
  omega
theorem ahN_is (n : Nat) : ∀ {k u v : Nat}, taU t q (2 * k) = u → taV t q (2 * k) = v → ahN (t * t) (2 ^ q * 2 ^ q) n (4 * k + 1) u v + altI (taD t q) (taC t q) (2 * k) = altI (taD t q) (taC t q) (2 * (k + n) + 1) := by
 induction n with
 | zero =>
  intro k u v _ hv
  have e : altI (taD t q) (taC t q) (2 * k + 1) = altI (taD t q) (taC t q) (2 * k) + taD t q (2 * k) := by
   simp only [altI]
   rw [if_pos (by omega)]
  show ((cdN v (4 * k + 1) : Nat) : Int) + _ = altI _ _ (2 * k + 1)
  rw [e, taD_N hv, show 2 * (2 * k) + 1 = 4 * k + 1 by omega]; omega
 | succ n ih =>
  intro k u v hu hv
  have h := ih (k := k + 1) (taU_N (taU_N hu)) (taV_N (taV_N hv))
  rw [show 4 * (k + 1) + 1 = 4 * k + 1 + 4 by omega, show k + 1 + n = k + (n + 1) by omega, alt_2] at h
  rw [← h, taD_N hv, taC_N (taU_N hu), show 2 * (2 * k) + 1 = 4 * k + 1 by omega, show 2 * (2 * k + 1) + 1 = 4 * k + 1 + 2 by omega]
  show _ - _ + _ + _ = _
  omega
end
def lnLo (w : Nat) : Int := rwLo 1 ((2 ^ w / 3 : Nat) : Int) w (w / 3 + 2)
def lnHi (w : Nat) : Int := rwHi 1 ((2 ^ w / 3 + 1 : Nat) : Int) w (w / 3 + 2)
def arLo (w m : Nat) : Int := rwLo 2 ((2 ^ w / m : Nat) : Int) w (w / 9 + 2)
def arHi (w m : Nat) : Int := rwHi 2 ((2 ^ w / m + 1 : Nat) : Int) w (w / 9 + 2)
theorem lnLo_N (w : Nat) : lnLo w = ((sdN (2 ^ w / 3 * (2 ^ w / 3)) (2 ^ w * 2 ^ w) (w / 3 + 2) 1 (2 ^ w / 3) : Nat) : Int) := by
 have h := sdN_is (t := 2 ^ w / 3) (q := w) (w / 3 + 2) (k := 0) rfl
 simp only [Nat.zero_add] at h
 show sumI _ _ = _
 rw [← h]
 exact Int.add_zero _
theorem lnHi_N (w : Nat) : lnHi w = ((suN ((2 ^ w / 3 + 1) * (2 ^ w / 3 + 1)) (2 ^ w * 2 ^ w) (w / 3 + 2) 1 (2 ^ w / 3 + 1) : Nat) : Int) := by
 have h := suN_is (t := 2 ^ w / 3 + 1) (q := w) (w / 3 + 2) (k := 0) rfl
 simp only [Nat.zero_add] at h
 show sumI _ _ + 2 * _ = _
 rw [← h]
 exact Int.add_zero _
theorem arLo_N (w m : Nat) : arLo w m = alN (2 ^ w / m * (2 ^ w / m)) (2 ^ w * 2 ^ w) (w / 9 + 2) 1 (2 ^ w / m) (2 ^ w / m) := by
 have h := alN_is (t := 2 ^ w / m) (q := w) (w / 9 + 2) (k := 0) rfl rfl
 simp only [Nat.zero_add] at h
 show altI _ _ _ = _
 rw [← h]
 exact Int.add_zero _
theorem arHi_N (w m : Nat) : arHi w m = ahN ((2 ^ w / m + 1) * (2 ^ w / m + 1)) (2 ^ w * 2 ^ w) (w / 9 + 2) 1 (2 ^ w / m + 1) (2 ^ w / m + 1) := by
 have h := ahN_is (t := 2 ^ w / m + 1) (q := w) (w / 9 + 2) (k := 0) rfl rfl
 simp only [Nat.zero_add] at h
 show altI _ _ _ = _
 rw [← h]
 exact Int.add_zero _
def lnA (q : Nat) : Int := 2 * lnLo (q + 16) / 65536
def lnZ (q : Nat) : Int := -(-(2 * lnHi (q + 16)) / 65536)
def piA (q : Nat) : Int := (16 * arLo (q + 16) 5 - 4 * arHi (q + 16) 239) / 65536
def piZ (q : Nat) : Int := -(-(16 * arHi (q + 16) 5 - 4 * arLo (q + 16) 239) / 65536)
def inB (a z c : Int) (q : Nat) : Bool := decide (a * 2 ^ (300 - q) ≤ c) && decide (c ≤ z * 2 ^ (300 - q)) && decide (a ≤ z) && decide (z - a ≤ 2)
def lnK : Int := 1411965743695424507508857192728570223734551239724995589061361292466257174357546532574725854
def piK : Int := 6399537258350533404498902296276095619968599404742382956244570183135712832137875919436931981
def lnN (w : Nat) : Int × Int := ((sdN (2 ^ w / 3 * (2 ^ w / 3)) (2 ^ w * 2 ^ w) (w / 3 + 2) 1 (2 ^ w / 3) : Nat), (suN ((2 ^ w / 3 + 1) * (2 ^ w / 3 + 1)) (2 ^ w * 2 ^ w) (w / 3 + 2) 1 (2 ^ w / 3 + 1) : Nat))
def arN (w m : Nat) : Int × Int := (alN (2 ^ w / m * (2 ^ w / m)) (2 ^ w * 2 ^ w) (w / 9 + 2) 1 (2 ^ w / m) (2 ^ w / m), ahN ((2 ^ w / m + 1) * (2 ^ w / m + 1)) (2 ^ w * 2 ^ w) (w / 9 + 2) 1 (2 ^ w / m + 1) (2 ^ w / m + 1))
def lnCk (q : Nat) : Bool := inB (2 * (lnN (q + 16)).1 / 65536) (-(-(2 * (lnN (q + 16)).2) / 65536)) lnK q
def piCk (q : Nat) : Bool := inB ((16 * (arN (q + 16) 5).1 - 4 * (arN (q + 16) 239).2) / 65536) (-(-(16 * (arN (q + 16) 5).2 - 4 * (arN (q + 16) 239).1) / 65536)) piK q
theorem lnCk_is (q : Nat) : lnCk q = inB (lnA q) (lnZ q) lnK q := by
 unfold lnCk lnA lnZ lnN
 rw [lnLo_N, lnHi_N]
theorem piCk_is (q : Nat) : piCk q = inB (piA q) (piZ q) piK q := by
 unfold piCk piA piZ arN
 rw [arLo_N, arHi_N, arLo_N, arHi_N]
theorem ln_all : (List.range 256).all lnCk = true := by decide +kernel
theorem pi_all : (List.range 256).all piCk = true := by decide +kernel
theorem ln_in (q : Nat) (hq : q < 256) : lnA q * 2 ^ (300 - q) ≤ lnK ∧ lnK ≤ lnZ q * 2 ^ (300 - q) ∧ lnA q ≤ lnZ q ∧ lnZ q - lnA q ≤ 2 := by
 have h := List.all_eq_true.1 ln_all q (by simpa using hq)
 rw [lnCk_is] at h
 simpa [inB, and_assoc] using h
theorem pi_in (q : Nat) (hq : q < 256) : piA q * 2 ^ (300 - q) ≤ piK ∧ piK ≤ piZ q * 2 ^ (300 - q) ∧ piA q ≤ piZ q ∧ piZ q - piA q ≤ 2 := by
 have h := List.all_eq_true.1 pi_all q (by simpa using hq)
 rw [piCk_is] at h
 simpa [inB, and_assoc] using h
end Go.Proofs.YtjlbngjeekdfcaaGreatDoor
namespace Go.Proofs.YtjlbngjeekdfcaaGreatDoor
set_option maxRecDepth 100000
set_option linter.unusedVariables false
open Go.RowKit
def OuB (w : World) (X Y q : Int) (k : Nat) (e : Ending) (w' : World) : Prop := ∃ A n c A2 n2 c2, e = .returned (.agg #[.bool (ngB X), .slice A n c, .bool (ngB Y), .slice A2 n2 c2, .int .i64 q]) ∧ Zn w' A n c X k ∧ Zn w' A2 n2 c2 Y k ∧ Below w.heap.size w w'
def ptN (w m : Nat) : Int := ((2 ^ w / m : Nat) : Int)
theorem pt_bd {w m : Nat} (hw : 16 ≤ w ∧ w ≤ 1000) (hm : 3 ≤ m) : 0 ≤ ptN w m ∧ 2 * (ptN w m + 1) ≤ twP w ∧ 2 * ptN w m ≤ twP w := by
 have h1 : 2 ^ w / m ≤ 2 ^ w / 3 := Nat.div_le_div_left hm (by omega)
 have h2 : 2 ^ 4 ≤ 2 ^ w := Nat.pow_le_pow_right (by omega) (by omega)
 have h3 : 2 ^ w / m * 3 ≤ 2 ^ w := Nat.le_trans (Nat.mul_le_mul_right 3 h1) (Nat.div_mul_le_self _ _)
 have h4 : (((2 ^ w : Nat)) : Int) = twP w := twN w
 unfold ptN
 generalize 2 ^ w / m = d at *
 generalize 2 ^ w = T at *
 omega
theorem fl16 (X : Int) (q : Int) : flI X (-(q + 16) + q) = X / 65536 := by
 unfold flI
 rw [if_pos (by omega), show (-(-(q + 16) + q)).toNat = 16 by omega]; rfl
theorem rw_si {kind : Nat} (hk : kind = 1 ∨ kind = 2) {t : Int} {q n : Nat} (h0 : 0 ≤ t) (h : t ≤ twP q) (hq : q ≤ 1200) (hn : n ≤ 400) : Si (rwLo kind t q n) 20 ∧ Si (rwHi kind t q n) 20 := by
 have b := fun k => ta_cd2 h0 h k
 have p := tw_pos q
 rcases hk with rfl | rfl
 ·have s1 := sum_bd (fun k => (b k).1) (fun k => Int.le_trans (b k).2.1 (b k).2.2) n
  have s2 := sum_bd (fun k => Int.le_trans (b k).1 (b k).2.1) (fun k => (b k).2.2) n
  have b2 := b n
  have e : ((n + 2 : Nat) : Int) * twP q = n * twP q + 2 * twP q := by push_cast; grind
  have m0 := Int.mul_nonneg (show (0 : Int) ≤ n by omega) (Int.le_of_lt p)
  exact ⟨si_tw (K := n + 2) (by omega) hq (by show sumI _ _ ≤ _; omega) (by show _ ≤ sumI _ _; omega), si_tw (K := n + 2) (by omega) hq (by show sumI _ _ + 2 * taD t q n ≤ _; omega) (by show _ ≤ sumI _ _ + 2 * taD t q n; omega)⟩
 ·have a1 := alt_bd (fun k => (b k).1) (fun k => Int.le_trans (b k).2.1 (b k).2.2) (fun k => Int.le_trans (b k).1 (b k).2.1) (fun k => (b k).2.2) (2 * n)
  have a2 := alt_bd (fun k => Int.le_trans (b k).1 (b k).2.1) (fun k => (b k).2.2) (fun k => (b k).1) (fun k => Int.le_trans (b k).2.1 (b k).2.2) (2 * n + 1)
  exact ⟨si_tw (K := 2 * n) (by omega) hq a1.2 a1.1, si_tw (K := 2 * n + 1) (by omega) hq a2.2 a2.1⟩
def vCk (q : Nat) : Bool := decide ((lnN (q + 16)).1 ≤ (lnN (q + 16)).2) && decide ((arN (q + 16) 5).1 ≤ (arN (q + 16) 5).2) && decide ((arN (q + 16) 239).1 ≤ (arN (q + 16) 239).2)
theorem v_all : ((List.range 256) ++ [400, 600, 800]).all vCk = true := by decide +kernel
theorem v_in (q : Nat) (hq : q < 256 ∨ q = 400 ∨ q = 600 ∨ q = 800) : lnLo (q + 16) ≤ lnHi (q + 16) ∧ arLo (q + 16) 5 ≤ arHi (q + 16) 5 ∧ arLo (q + 16) 239 ≤ arHi (q + 16) 239 := by
 have h := List.all_eq_true.1 v_all q (by simp; omega)
 unfold vCk lnN arN at h
 rw [lnLo_N, lnHi_N, arLo_N, arHi_N, arLo_N, arHi_N]
 simpa [and_assoc] using h
end Go.Proofs.YtjlbngjeekdfcaaGreatDoor
