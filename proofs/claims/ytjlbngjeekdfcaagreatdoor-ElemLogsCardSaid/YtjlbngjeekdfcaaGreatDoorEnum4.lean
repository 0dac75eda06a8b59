/-
 elem: a sine turned.
-/
import Derived.Test.YtjlbngjeekdfcaaGreatDoorElem2
namespace Go.Proofs.YtjlbngjeekdfcaaGreatDoor
variable {X e t : Int} {kind n w : Nat}
set_option linter.unusedVariables false
open Go.RowKit
open MX (bLo bHi tA tZ xK xR xS yR yS uR uS gR gS hR hS wK wR wS vJ vKi vN vLo vHi nq Hd)
theorem sw_si (hw : w < 256) (h0 : -(2000 * twP w) ≤ X) (h : X ≤ 2000 * twP w) : Si X 8 := si_twL (K := 2000) (Q := w) (by omega) (by omega) (by omega) (by omega)
theorem rw_nb (h0 : 0 ≤ t) (hk : (kind = 0 ∨ kind = 1) ∧ t ≤ twP w ∨ (kind = 3 ∨ kind = 4) ∧ t ≤ 2 * twP w) (hn : n ≤ 100) : (-(420 * twP w) ≤ rwLo kind t w n ∧ rwLo kind t w n ≤ 420 * twP w) ∧ -(420 * twP w) ≤ rwHi kind t w n ∧ rwHi kind t w n ≤ 420 * twP w := by
 have p := tw_pos w
 have go : ∀ (m : Nat) (M x : Int), m ≤ 201 → 0 ≤ M → M ≤ 2 * twP w → (-(m * M) - 2 * M ≤ x ∧ x ≤ m * M + 2 * M) → -(420 * twP w) ≤ x ∧ x ≤ 420 * twP w := fun m M x hm hM hM2 hx => by
  have a : (m : Int) * M ≤ 201 * (2 * twP w) := Int.mul_le_mul (by omega) hM2 hM (by omega)
  omega
 have go2 : ∀ (f g : Nat → Int) (M : Int), M = twP w → (∀ k, 0 ≤ f k ∧ f k ≤ g k ∧ g k ≤ M) → (-(420 * twP w) ≤ sumI f n ∧ sumI f n ≤ 420 * twP w) ∧ -(420 * twP w) ≤ sumI g n + 2 * g n ∧ sumI g n + 2 * g n ≤ 420 * twP w := fun f g M hM b => by
  have s1 := sum_bd (fun k => (b k).1) (fun k => Int.le_trans (b k).2.1 (b k).2.2) n
  have s2 := sum_bd (fun k => Int.le_trans (b k).1 (b k).2.1) (fun k => (b k).2.2) n
  have b2 := b n
  exact ⟨go n M _ (by omega) (by omega) (by omega) (by omega), go n M _ (by omega) (by omega) (by omega) (by omega)⟩
 have go4 : ∀ (f g : Nat → Int) (M : Int), M = 2 * twP w → (∀ k, 0 ≤ f k ∧ f k ≤ g k ∧ g k ≤ M) → (-(420 * twP w) ≤ altI f g (2 * n) ∧ altI f g (2 * n) ≤ 420 * twP w) ∧ -(420 * twP w) ≤ altI g f (2 * n + 1) ∧ altI g f (2 * n + 1) ≤ 420 * twP w := fun f g M hM b => by
  have a1 := alt_bd (fun k => (b k).1) (fun k => Int.le_trans (b k).2.1 (b k).2.2) (fun k => Int.le_trans (b k).1 (b k).2.1) (fun k => (b k).2.2) (2 * n)
  have a2 := alt_bd (fun k => Int.le_trans (b k).1 (b k).2.1) (fun k => (b k).2.2) (fun k => (b k).1) (fun k => Int.le_trans (b k).2.1 (b k).2.2) (2 * n + 1)
  exact ⟨go (2 * n) M _ (by omega) (by omega) (by omega) (by omega), go (2 * n + 1) M _ (by omega) (by omega) (by omega) (by omega)⟩
 rcases hk with ⟨rfl | rfl, h⟩ | ⟨rfl | rfl, h⟩
 ·exact go2 _ _ _ rfl fun k => ex_bd h0 h k
 ·exact go2 _ _ _ rfl fun k => ta_cd2 h0 h k
 ·exact go4 _ _ _ rfl fun k => sn_bd h0 h k
 ·exact go4 _ _ _ rfl fun k => cs_bd h0 h k
theorem rw_sw (h0 : 0 ≤ t) (hk : (kind = 0 ∨ kind = 1) ∧ t ≤ twP w ∨ (kind = 3 ∨ kind = 4) ∧ t ≤ 2 * twP w) (hw : w < 256) (hn : n ≤ 100) : Si (rwLo kind t w n) 8 ∧ Si (rwHi kind t w n) 8 := by
 have h := rw_nb h0 hk hn
 have p := tw_pos w
 exact ⟨sw_si hw (by omega) (by omega), sw_si hw (by omega) (by omega)⟩
structure Ar (X e : Int) : Prop where
 n : od X = X ∧ nE X e = e
 lo : -1200 ≤ e
 hi : e ≤ 4000
 b : -nq 64 0 ≤ nq X e ∧ nq X e ≤ nq 64 0
theorem bl_two {N : Nat} (h : 0 < N) : 2 ^ (bl N - 1) ≤ N ∧ N < 2 ^ bl N := by
 refine ⟨?_, lt_bl N⟩
 have hp := bl_pos h
 exact le_of_bl (k := bl N - 1) (by omega)
theorem lg_vd (h : 0 < X) (he : In e) (h1 : -4000 ≤ e + bl X.natAbs - 1) : vd 1 (e + bl X.natAbs - 1) ≤ vd X e ∧ vd X e < vd 1 (e + bl X.natAbs) := by
 have hb := bl_two (N := X.natAbs) (by omega)
 have p1 := bl_pos (N := X.natAbs) (by omega)
 unfold In at *
 obtain ⟨N, rfl⟩ : ∃ N : Nat, X = N := ⟨X.toNat, by omega⟩
 rw [Int.natAbs_natCast] at *
 generalize bl N = β at *
 have e1 : vd 1 (e + β - 1) = ((2 ^ (β - 1) * 2 ^ (e + 4000).toNat : Nat) : Int) := by
  unfold vd; rw [Int.one_mul, pow_cast, ← Nat.pow_add]; congr 2; omega
 have e2 : vd 1 (e + β) = ((2 ^ β * 2 ^ (e + 4000).toNat : Nat) : Int) := by
  unfold vd; rw [Int.one_mul, pow_cast, ← Nat.pow_add]; congr 2; omega
 have e3 : vd (N : Int) e = ((N * 2 ^ (e + 4000).toNat : Nat) : Int) := by unfold vd; rw [Int.natCast_mul, pow_cast]
 rw [e1, e2, e3]
 have a := Nat.mul_le_mul_right (2 ^ (e + 4000).toNat) hb.1
 have b := Nat.mul_lt_mul_of_pos_right hb.2 (Nat.two_pow_pos (e + 4000).toNat)
 omega
theorem pw_le {a b : Nat} (h : (2 : Int) ^ a ≤ 2 ^ b) : a ≤ b := by
 rcases Nat.lt_or_ge b a with h1 | h1
 ·have := Nat.pow_lt_pow_right (a := 2) (by omega) h1
  have h2 : ((2 ^ a : Nat) : Int) ≤ ((2 ^ b : Nat) : Int) := by push_cast; exact h
  omega
 ·exact h1
theorem Ar.neg (a : Ar X e) : Ar (-X) e := ⟨⟨by rw [od_neg, a.n.1], by unfold nE; rw [show tz (-X) = tz X by unfold tz; rw [Int.natAbs_neg]]; have := a.n.2; unfold nE at this; split <;> split at this <;> omega⟩, a.lo, a.hi, by rw [MX.nq_neg]; have := a.b; constructor <;> grind⟩
theorem Ar.lg (a : Ar X e) : lgI X e ≤ 6 ∧ -1201 ≤ lgI X e := by
 have hi := a.hi; have lo := a.lo
 unfold lgI
 split
 ·omega
 ·next h =>
  have key : ∀ Y : Int, Ar Y e → 0 < Y → e + bl Y.natAbs - 1 ≤ 6 := fun Y a h => by
   have p := bl_pos (N := Y.natAbs) (by omega)
   have q := (lg_vd h ⟨by omega, a.hi⟩ (by omega)).1
   have r := MX.nq_le.1 a.b.2
   have s := Int.le_trans q r
   unfold vd at s
   rw [show (64 : Int) * 2 ^ ((0 : Int) + 4000).toNat = 2 ^ 4006 by rw [show (64 : Int) = 2 ^ 6 by decide, show ((0 : Int) + 4000).toNat = 4000 by rfl, ← Int.pow_add], Int.one_mul] at s
   have := pw_le s
   omega
  have p := bl_pos (N := X.natAbs) (by omega)
  rcases (show 0 < X ∨ X < 0 by omega) with h1 | h1
  ·exact ⟨key X a h1, by omega⟩
  ·have := key (-X) a.neg (by omega)
   rw [Int.natAbs_neg] at this
   exact ⟨this, by omega⟩
theorem Ar.bs (a : Ar X e) {w : Nat} (hw : w < 256) : Si (bLo X e w) 8 ∧ Si (bHi X e w) 8 := by
 have h := MX.b_bd (w := w) (c := 64) (by have := a.lo; omega) (by omega) a.b
 have l := MX.b_le (M := X) (e := e) (w := w)
 have p := tw_pos w
 exact ⟨sw_si hw (by omega) (by omega), sw_si hw (by omega) (by omega)⟩
theorem ln_si (hw : w < 256) : Si (lnA w) 8 ∧ Si (lnZ w) 8 := by
 have b := MX.ln_bd hw
 have p := tw_pos w
 exact ⟨sw_si hw (by omega) (by omega), sw_si hw (by omega) (by omega)⟩
theorem t_si (hw : 40 ≤ w ∧ w < 256) : Si (tA w) 8 ∧ Si (tZ w) 8 := by
 have b := MX.t_bd hw
 have p := tw_pos w
 exact ⟨sw_si hw.2 (by omega) (by omega), sw_si hw.2 (by omega) (by omega)⟩
theorem ln_k (h4 : 40 ≤ w) (hw : w < 256) {K : Int} (hK : -100 ≤ K ∧ K ≤ 100) : Si (lnA w * K) 8 ∧ Si (lnZ w * K) 8 ∧ (0 ≤ K → min (lnA w * K) (lnZ w * K) = lnA w * K ∧ max (lnA w * K) (lnZ w * K) = lnZ w * K) ∧ (K ≤ 0 → min (lnA w * K) (lnZ w * K) = lnZ w * K ∧ max (lnA w * K) (lnZ w * K) = lnA w * K) := by
 have b := MX.ln_bd hw
 have p := MX.tw_big h4
 have go : ∀ L : Int, 0 ≤ L → L ≤ 3 * twP w → -(300 * twP w) ≤ L * K ∧ L * K ≤ 300 * twP w := fun L h0 h => by
  have a := Int.mul_le_mul_of_nonneg_left (show K ≤ 100 by omega) h0
  have c := Int.mul_le_mul_of_nonneg_left (show -100 ≤ K by omega) h0
  omega
 have g1 := go (lnA w) (by omega) (by omega)
 have g2 := go (lnZ w) (by omega) (by omega)
 refine ⟨sw_si hw (by omega) (by omega), sw_si hw (by omega) (by omega), fun h => ?_, fun h => ?_⟩
 ·have := Int.mul_le_mul_of_nonneg_right b.2.2.1 h
  omega
 ·have := Int.mul_le_mul_of_nonpos_right b.2.2.1 h
  omega
theorem ln_kb (h4 : 40 ≤ w) (hw : w < 256) {K : Int} (hK : -100 ≤ K ∧ K ≤ 100) : -(300 * twP w) ≤ min (lnA w * K) (lnZ w * K) ∧ max (lnA w * K) (lnZ w * K) ≤ 300 * twP w := by
 have b := MX.ln_bd hw
 have p := MX.tw_big h4
 have go : ∀ L : Int, 0 ≤ L → L ≤ 3 * twP w → -(300 * twP w) ≤ L * K ∧ L * K ≤ 300 * twP w := fun L h0 h => by
  have a := Int.mul_le_mul_of_nonneg_left (show K ≤ 100 by omega) h0
  have c := Int.mul_le_mul_of_nonneg_left (show -100 ≤ K by omega) h0
  omega
 have g1 := go (lnA w) (by omega) (by omega)
 have g2 := go (lnZ w) (by omega) (by omega)
 omega
end Go.Proofs.YtjlbngjeekdfcaaGreatDoor
namespace Go.Proofs.YtjlbngjeekdfcaaGreatDoor
variable {X e : Int} {w : Nat}
set_option linter.unusedVariables false
open Go.RowKit
open MX (bLo bHi tA tZ xK xR xS yR yS uR uS gR gS hR hS wK wR wS vJ vKi vN vLo vHi nq Hd)
def r2D (X e : Int) : Int := alP X e 0 - alQ (flI X e) e 0
def r2M (X e : Int) : Int := od (r2D X e)
def r2E (X e : Int) : Int := nE (r2D X e) (alE e 0)
theorem nq_nf (he : -4000 ≤ e) : nq (od X) (nE X e) = nq X e := by unfold nq; rw [vd_nf he]
theorem fl0_nq (he : -4000 ≤ e) : nq (flI X e) 0 ≤ nq X e ∧ nq X e ≤ nq (flI X e + 1) 0 := by
 have a := @le_flI (flI X e) X e 0 he (by omega)
 have b := @le_flI (flI X e + 1) X e 0 he (by omega)
 rw [Int.add_zero] at a b
 exact ⟨MX.nq_le.2 (a.1 (Int.le_refl _)), MX.nq_le.2 (by have := mt b.2 (by omega); rw [show -(0 : Int) = 0 by rfl] at this; omega)⟩
theorem Ar.fl (a : Ar X e) : -65 ≤ flI X e ∧ flI X e ≤ 64 := by
 have b := fl0_nq (X := X) (e := e) (by have := a.lo; omega)
 rw [MX.nq_one, MX.nq_one] at b
 have c := a.b
 rw [MX.nq_one] at c
 have d : ((flI X e : Int) : Rat) ≤ ((64 : Int) : Rat) := by grind
 have d2 : ((-64 : Int) : Rat) ≤ ((flI X e + 1 : Int) : Rat) := by push_cast; push_cast at b c; grind
 have d3 := Rat.intCast_le_intCast.1 d
 have d4 := Rat.intCast_le_intCast.1 d2
 omega
theorem Ar.e6 (a : Ar X e) : e ≤ 6 := by
 have l := a.lg.1
 have n := a.n.2
 unfold lgI at l
 unfold nE at n
 split at l
 ·next h => rw [if_pos h] at n; omega
 ·next h => have := bl_pos (N := X.natAbs) (by omega); omega
theorem Ar.r2 {j : Nat} (a : Ar X e) (hX : Si X j) (hj : j ≤ 8) : (-4000 ≤ r2E X e ∧ r2E X e ≤ 4000) ∧ nq (r2M X e) (r2E X e) = nq X e - flI X e ∧ 0 ≤ nq (r2M X e) (r2E X e) ∧ nq (r2M X e) (r2E X e) ≤ 1 := by
 have h0 := a.lo
 have h1 := a.hi
 have i1 : In e := ⟨by omega, a.hi⟩
 have i2 : In 0 := ⟨by omega, by omega⟩
 have e1 : nq (r2M X e) (r2E X e) = nq X e - flI X e := by
  unfold r2M r2E
  rw [nq_nf (alE_in e 0).1, ← MX.nq_one (flI X e)]
  unfold nq r2D
  rw [sub_vd i1 i2]
  push_cast
  rw [Rat.div_def, Rat.div_def, Rat.div_def]; grind
 have f := fl0_nq (X := X) (e := e) (by omega)
 rw [MX.nq_one, MX.nq_one] at f
 push_cast at f
 refine ⟨?_, e1, by grind, by grind⟩
 have h6 := a.e6
 have k := a.fl
 have b1 := alP_bt (s := 6) (Bt.of_si hX) i1 i2 (by omega)
 have b2 := alQ_bt (k := 8) (s := 1200) (Y := flI X e) (by unfold Bt; omega) i1 i2 (by omega)
 have b3 := Bt.sub (b1.mono (show 64 * j + 6 ≤ 1208 by omega)) b2
 have e2 := al_in i1 i2
 exact nE_in b3 (by omega) (by omega) (by omega)
theorem y_si (hw : 40 ≤ w ∧ w < 256) (he : -4000 ≤ e) (h : 0 ≤ nq X e ∧ nq X e ≤ 1) : (Si (bLo X e w) 8 ∧ Si (bHi X e w) 8) ∧ (0 ≤ yR X e w ∧ yR X e w ≤ yS X e w ∧ yS X e w ≤ twP w) ∧ Si (yR X e w) 8 ∧ Si (yS X e w) 8 := by
 have h1 : nq 1 0 = 1 := by rw [MX.nq_one]; rfl
 have b := MX.b_bd (M := X) (w := w) (c := 1) he (by omega) ⟨by rw [h1]; grind, by rw [h1]; exact h.2⟩
 have l := MX.b_le (M := X) (e := e) (w := w)
 have p := tw_pos w
 have y := MX.y_ok hw he h
 have d := (MX.y_hd0 hw he (M := X)).le
 exact ⟨⟨sw_si hw.2 (by omega) (by omega), sw_si hw.2 (by omega) (by omega)⟩, ⟨y.1, d, y.2⟩, sw_si hw.2 (by omega) (by omega), sw_si hw.2 (by omega) (by omega)⟩
theorem Ar.sh (a : Ar X e) (h0 : 0 < X) (hl : -100 ≤ lgI X e) : (od (cM X e) = X ∧ nE (cM X e) (cE e + li (-lgI X e)) = e - lgI X e) ∧ (-4000 ≤ e - lgI X e ∧ e - lgI X e ≤ 4000) ∧ 1 ≤ nq X (e - lgI X e) ∧ nq X (e - lgI X e) ≤ 2 := by
 have l := a.lg.1
 have n := a.n
 have lo := a.lo
 have h6 := a.e6
 obtain ⟨c1, c2⟩ := c_yes (X := X) (e := e) ⟨by omega, a.hi⟩
 have tz0 : tz X = 0 := by have := n.2; rw [nE_ne (by omega)] at this; omega
 have eL : lgI X e = e + bl X.natAbs - 1 := by unfold lgI; rw [if_neg (by omega)]
 have g := lg_vd (X := X) (e := e - lgI X e) h0 ⟨by omega, by omega⟩ (by omega)
 rw [show e - lgI X e + bl X.natAbs - 1 = 0 by omega, show e - lgI X e + bl X.natAbs = 1 by omega] at g
 have g1 := MX.nq_le.2 g.1
 have g2 := MX.nq_le.2 (Int.le_of_lt g.2)
 rw [MX.nq_one] at g1
 have e2 : nq 1 1 = 2 := by have := MX.p2_nat 1; unfold MX.p2 at this; rw [show ((1 : Nat) : Int) = 1 by rfl] at this; rw [this]; rfl
 rw [e2] at g2
 refine ⟨⟨by rw [c1]; exact n.1, ?_⟩, by omega, g1, g2⟩
 rw [c1, c2, nE_ne (by omega), tz0, show li (-lgI X e) = -lgI X e by unfold li; omega]
 omega
theorem u_si (hw : 40 ≤ w ∧ w < 256) (he : -4000 ≤ e) (h : 1 ≤ nq X e ∧ nq X e ≤ 2) : (twP w ≤ bLo X e w ∧ bLo X e w ≤ bHi X e w ∧ bHi X e w ≤ 3 * twP w) ∧ (0 ≤ uR X e w ∧ uR X e w ≤ uS X e w ∧ 2 * uS X e w ≤ twP w) ∧ Si (uR X e w) 8 ∧ Si (uS X e w) 8 := by
 have b := MX.b_low (M := X) (w := w) (c := 1) he (by omega) h.1
 have b2 := MX.b_high (M := X) (w := w) (c := 2) he (by omega) h.2
 have l := MX.b_le (M := X) (e := e) (w := w)
 have p := tw_pos w
 have u := MX.u_ok ⟨hw.1, by omega⟩ he h
 have d := u.2.2.le
 exact ⟨⟨by omega, by omega, by omega⟩, ⟨u.1, d, u.2.1⟩, sw_si hw.2 (by omega) (by omega), sw_si hw.2 (by omega) (by omega)⟩
theorem fd_rng {x y t B : Int} (hx : 0 ≤ x ∧ x ≤ B) (ht : 0 ≤ t) (hy : t ≤ 2 * y ∧ 0 < y) : 0 ≤ fdI (x * t) y ∧ fdI (x * t) y ≤ cdI (x * t) y ∧ cdI (x * t) y ≤ 2 * B := by
 have p : 0 ≤ x * t := Int.mul_nonneg hx.1 ht
 have m : x * t ≤ 2 * B * y := by
  have a := Int.mul_le_mul_of_nonneg_left hy.1 hx.1
  have b := Int.mul_le_mul_of_nonneg_right hx.2 (show 0 ≤ 2 * y by omega)
  have c : B * (2 * y) = 2 * B * y := by grind
  omega
 have e : fdI (x * t) y = x * t / y := by unfold fdI; rw [if_neg (by omega)]
 have e2 : cdI (x * t) y = -(-(x * t) / y) := by unfold cdI fdI; rw [if_neg (by omega)]
 rw [e, e2]
 exact ⟨Int.ediv_nonneg p (by omega), Int.le_of_mul_le_mul_right (Int.le_trans (dv_mul_le _ hy.2) (le_up_mul _ hy.2)) hy.2, (up_le hy.2).2 m⟩
theorem S_nb {n : Nat} (hw : 40 ≤ w ∧ w < 256) (he : -4000 ≤ e) (h : 1 ≤ nq X e ∧ nq X e ≤ 2) (hn : n ≤ 100) : 0 ≤ rwLo 1 (uR X e w) w n ∧ rwLo 1 (uR X e w) w n ≤ rwHi 1 (uS X e w) w n ∧ rwHi 1 (uS X e w) w n ≤ 420 * twP w := by
 have u := u_si hw he h
 have p := tw_pos w
 exact ⟨(sum_bd (fun k => ta_c_nonneg u.2.1.1 k) (fun k => Int.le_trans (ta_cd2 u.2.1.1 (show uR X e w ≤ twP w by omega) k).2.1 (ta_cd2 u.2.1.1 (by omega) k).2.2) n).1, (MX.s_hd ⟨hw.1, by omega⟩ he h n).1.le, (rw_nb (kind := 1) (t := uS X e w) (w := w) (n := n) (by omega) (by omega) hn).2.2⟩
theorem q_nb {a b : Int} (hw : 40 ≤ w ∧ w < 256) (h : 0 ≤ a ∧ a ≤ b ∧ b ≤ 840 * twP w) : 0 ≤ mn4 (fun x y => fdI (x * 2 ^ (w : Int).toNat) y) a b (lnA w) (lnZ w) ∧ mn4 (fun x y => fdI (x * 2 ^ (w : Int).toNat) y) a b (lnA w) (lnZ w) ≤ mx4 (fun x y => cdI (x * 2 ^ (w : Int).toNat) y) a b (lnA w) (lnZ w) ∧ mx4 (fun x y => cdI (x * 2 ^ (w : Int).toNat) y) a b (lnA w) (lnZ w) ≤ 1680 * twP w := by
 have l := MX.ln_bd hw.2
 have p := MX.tw_big hw.1
 have t : (2 : Int) ^ (w : Int).toNat = twP w := rfl
 rw [t]
 have go := fun x y (hx : 0 ≤ x ∧ x ≤ 840 * twP w) (hy : twP w ≤ 2 * y ∧ 0 < y) => fd_rng hx (Int.le_of_lt (tw_pos w)) hy
 have g1 := go a (lnA w) (by omega) (by omega)
 have g2 := go a (lnZ w) (by omega) (by omega)
 have g3 := go b (lnA w) (by omega) (by omega)
 have g4 := go b (lnZ w) (by omega) (by omega)
 simp only [mn4, mx4]
 omega
end Go.Proofs.YtjlbngjeekdfcaaGreatDoor
namespace Go.Proofs.YtjlbngjeekdfcaaGreatDoor
variable {n w : Nat}
set_option linter.unusedVariables false
open Go.RowKit
open MX (bLo bHi tA tZ xK xR xS yR yS uR uS gR gS hR hS wK wR wS vJ vKi vN vLo vHi nq Hd)
theorem wave_le {t : Int} (hw : w ≤ 4000) (h0 : 0 ≤ t) (h : t ≤ 2 * twP w) (hn : 1 ≤ n) {k : Nat} (hk : k = 3 ∨ k = 4) : rwLo k t w n ≤ rwHi k t w n := by
 have a := MX.Hd.wave (V := fun _ => nq t (-(w : Int))) hw h0 (Int.le_refl t) h (by have := tw_pos w; omega) hn (MX.Hd.of_const ⟨by grind, by grind⟩) (MX.Rb.const _)
 have b := a.1.le
 have c := a.2.le
 rcases hk with rfl | rfl <;> omega
theorem w_nb {X e : Int} (c : Bool) (hw : 40 ≤ w ∧ w < 256) (he : -4000 ≤ e) (h : 0 ≤ nq X e ∧ nq X e ≤ nq 64 0) (hn : 1 ≤ n ∧ n ≤ 100) {k : Nat} (hk : k = 3 ∨ k = 4) : (0 ≤ wK X e w ∧ wK X e w ≤ 50) ∧ (0 ≤ wR X e w ∧ wR X e w ≤ 2 * twP w ∧ wR X e w ≤ wS X e w ∧ wS X e w ≤ wR X e w + twP w) ∧ (0 ≤ bLo X e w ∧ bLo X e w ≤ bHi X e w ∧ bHi X e w ≤ 70 * twP w) ∧
  (rwLo k (wR X e w) w n ≤ rwHi k (wR X e w) w n ∧ -(420 * twP w) ≤ rwLo k (wR X e w) w n ∧ rwHi k (wR X e w) w n ≤ 420 * twP w) ∧ (0 ≤ tA w * wK X e w ∧ tA w * wK X e w ≤ tZ w * wK X e w ∧ tZ w * wK X e w ≤ 200 * twP w) ∧ 0 < tZ w ∧ tA w ≤ tZ w := by
 have r := MX.w_ok hw he h
 have d := r.2.2.2.2.2.1.le
 have p := MX.tw_big hw.1
 have t := MX.t_bd hw
 have h64 : 0 ≤ nq 64 0 := by rw [MX.nq_one]; decide
 have b := MX.b_bd (M := X) (w := w) (c := 64) he (by omega) ⟨by have := h.1; grind, h.2⟩
 have l := MX.b_le (M := X) (e := e) (w := w)
 have s := rw_nb (kind := k) (t := wR X e w) (w := w) (n := n) r.1 (by omega) hn.2
 have m1 := Int.mul_le_mul_of_nonneg_right t.2.2.1 r.2.2.2.1
 have m2 := Int.mul_nonneg (show 0 ≤ tA w by omega) r.2.2.2.1
 have m3 : tZ w * wK X e w ≤ tZ w * 50 := Int.mul_le_mul_of_nonneg_left (by omega) (by omega)
 exact ⟨by omega, by omega, by omega, ⟨wave_le (by omega) r.1 r.2.1 hn.1 hk, by omega, by omega⟩, by omega, by omega, by omega⟩
theorem vK_in (j : Nat) : vKi j = 3 ∨ vKi j = 4 := by unfold vKi; split <;> simp
theorem vJ_tm (c : Bool) {K : Int} (h : 0 ≤ K) : (K + (if c then 1 else 0)).tmod 4 = (vJ c K : Int) ∧ vJ c K < 4 := by
 unfold vJ
 obtain ⟨k, rfl⟩ : ∃ k : Nat, K = k := ⟨K.toNat, by omega⟩
 cases c
 ·rw [Int.tmod_eq_emod_of_nonneg (by simp)]; simp; omega
 ·rw [Int.tmod_eq_emod_of_nonneg (by simp; omega)]; simp; omega
end Go.Proofs.YtjlbngjeekdfcaaGreatDoor
namespace Go.Proofs.YtjlbngjeekdfcaaGreatDoor
variable {X e : Int} {co neg : Bool} {n w : Nat}
set_option linter.unusedVariables false
open Go.RowKit
open MX (bLo bHi tA tZ xK xR xS yR yS uR uS gR gS hR hS wK wR wS vJ vKi vN vLo vHi nq Hd)
theorem nq_nn (h : 0 ≤ X) : 0 ≤ nq X e := by
 rcases (show X = 0 ∨ 0 < X by omega) with rfl | h
 ·rw [show nq 0 e = 0 by have := MX.nq_neg 0 e; rw [Int.neg_zero] at this; grind]; decide
 ·exact Rat.le_of_lt (MX.nq_pos h)
theorem v_le (hw : 40 ≤ w ∧ w < 256) (he : -4000 ≤ e) (h : 0 ≤ nq X e ∧ nq X e ≤ nq 64 0) (hn : 1 ≤ n := by omega) : vLo co neg X e w n ≤ vHi co neg X e w n := (MX.v_hd hw he h hn).le
theorem v_si (hw : 40 ≤ w ∧ w < 256) (he : -4000 ≤ e) (h : 0 ≤ nq X e ∧ nq X e ≤ nq 64 0) (hn : 1 ≤ n ∧ n ≤ 100 := by omega) : Si (vLo co neg X e w n) 8 ∧ Si (vHi co neg X e w n) 8 := by
 have s := w_nb (n := n) co hw he h hn (vK_in (vJ co (wK X e w)))
 have p := tw_pos w
 unfold vLo vHi
 split
 ·exact ⟨sw_si hw.2 (by omega) (by omega), sw_si hw.2 (by omega) (by omega)⟩
 ·exact ⟨sw_si hw.2 (by omega) (by omega), sw_si hw.2 (by omega) (by omega)⟩
theorem v_cos : vLo true true X e w n = vLo true false X e w n := by unfold vLo vN; simp
theorem v_cos2 : vHi true true X e w n = vHi true false X e w n := by unfold vHi vN; simp
theorem v_turn (hw : 40 ≤ w ∧ w < 256) (he : -4000 ≤ e) (h0 : 0 ≤ nq X e) (h : nq X e ≤ nq 64 0) (hn : 1 ≤ n ∧ n ≤ 100 := by omega) : (min (vLo false false X e w n * -1) (vHi false false X e w n * -1) = vLo false true X e w n ∧ max (vLo false false X e w n * -1) (vHi false false X e w n * -1) = vHi false true X e w n) ∧ Si (vLo false true X e w n) 8 ∧ Si (vHi false true X e w n) 8 := by
 refine ⟨?_, v_si hw he ⟨h0, h⟩ hn⟩
 have l := v_le (co := false) (neg := false) (n := n) hw he ⟨h0, h⟩ hn.1
 have e1 : vLo false true X e w n = -vHi false false X e w n := by
  unfold vLo vHi vN
  by_cases j : 2 ≤ vJ false (wK X e w) <;> simp [j] <;> omega
 have e2 : vHi false true X e w n = -vLo false false X e w n := by
  unfold vLo vHi vN
  by_cases j : 2 ≤ vJ false (wK X e w) <;> simp [j] <;> omega
 rw [e1, e2]
 omega
end Go.Proofs.YtjlbngjeekdfcaaGreatDoor
