/-
 elem: what At answers, in numbers.
-/
import Derived.Test.YtjlbngjeekdfcaaGreatDoorEnum4
namespace Go.Proofs.YtjlbngjeekdfcaaGreatDoor
variable {M X e : Int}
set_option linter.unusedVariables false
open Go.RowKit
open MX (bLo bHi tA tZ xK xR xS yR yS uR uS gR gS hR hS wK wR wS vJ vKi vN vLo vHi nq Hd Rb Rr lam al um E p2 sn cs)
theorem c_rat (c : Int) : nq c 0 = (c : Rat) := MX.nq_one c
structure Sl (X e : Int) : Prop where
 n : od X = X ∧ nE X e = e
 lo : -125 ≤ e
 hi : e ≤ 3
 b : -8 ≤ nq X e ∧ nq X e ≤ 8
 l : X = 0 ∨ 4 ≤ nq X e ∨ nq X e ≤ -4
theorem Sl.ar (a : Sl X e) : Ar X e := ⟨a.n, by have := a.lo; omega, by have := a.hi; omega, by have := a.b; rw [c_rat]; push_cast; grind⟩
theorem Sl.neg (a : Sl X e) : Sl (-X) e := by
 have b := a.b; have l := a.l; have n := MX.nq_neg X e
 refine ⟨a.ar.neg.n, a.lo, a.hi, by rw [n]; grind, ?_⟩
 rw [n]
 rcases l with l | l | l
 ·left; omega
 ·right; right; grind
 ·right; left; grind
theorem Sl.nul : Sl 0 0 := ⟨⟨od_zero, nE_zero 0⟩, by omega, by omega, by rw [c_rat]; push_cast; grind, Or.inl rfl⟩
theorem Sl.pos (a : Sl X e) (h : 0 < X) : 4 ≤ nq X e := by
 have p := MX.nq_pos (e := e) h
 rcases a.l with l | l | l
 ·omega
 ·exact l
 ·grind
theorem p2_2 : nq 1 2 = 4 := by have := MX.p2_nat 2; unfold MX.p2 at this; rw [show ((2 : Nat) : Int) = 2 by rfl] at this; rw [this]; rfl
theorem p2_3 : nq 1 3 = 8 := by have := MX.p2_nat 3; unfold MX.p2 at this; rw [show ((3 : Nat) : Int) = 3 by rfl] at this; rw [this]; rfl
theorem small_pos (h : 0 < M) (hb : bl M.natAbs ≤ 128) : 4 ≤ nq M (3 - bl M.natAbs) ∧ nq M (3 - bl M.natAbs) ≤ 8 := by
 have g := lg_vd (X := M) (e := 3 - bl M.natAbs) h ⟨by omega, by omega⟩ (by omega)
 rw [show (3 : Int) - bl M.natAbs + bl M.natAbs - 1 = 2 by omega, show (3 : Int) - bl M.natAbs + bl M.natAbs = 3 by omega] at g
 have g1 := MX.nq_le.2 g.1
 have g2 := MX.nq_le.2 (Int.le_of_lt g.2)
 rw [p2_2] at g1; rw [p2_3] at g2
 exact ⟨g1, g2⟩
theorem small_is (h : M ≠ 0) (hb : bl M.natAbs ≤ 128) : Sl (od M) (nE M (3 - bl M.natAbs)) := by
 have e := nq_nf (X := M) (e := 3 - bl M.natAbs) (by omega)
 have t : tz M < bl M.natAbs := Bt.tzlt (k := bl M.natAbs) (lt_bl _) h
 have n := nE_ne h (3 - bl M.natAbs)
 refine ⟨od_nf, by omega, by omega, ?_, Or.inr ?_⟩
 all_goals rw [e]
 all_goals rcases (show 0 < M ∨ 0 < -M by omega) with g | g
 ·have := small_pos g hb; grind
 ·have := small_pos g (by rw [Int.natAbs_neg]; exact hb); rw [Int.natAbs_neg, MX.nq_neg] at this; grind
 ·have := small_pos g hb; grind
 ·have := small_pos g (by rw [Int.natAbs_neg]; exact hb); rw [Int.natAbs_neg, MX.nq_neg] at this; grind
theorem lg_nn (a : Ar X e) (h : 1 ≤ nq X e) (h0 : 0 < X) : 0 ≤ lgI X e := by
 have lo := a.lo
 rcases (show 0 ≤ lgI X e ∨ lgI X e < 0 by omega) with g | g
 ·exact g
 ·have p := bl_pos (N := X.natAbs) (by omega)
  have eL : lgI X e = e + bl X.natAbs - 1 := by unfold lgI; rw [if_neg (by omega)]
  have v := (lg_vd (X := X) (e := e) h0 ⟨by omega, a.hi⟩ (by omega)).2
  have l : (e + bl X.natAbs + 4000).toNat ≤ ((0 : Int) + 4000).toNat := by omega
  have v3 : vd 1 (e + bl X.natAbs) ≤ vd 1 0 := by
   unfold vd
   generalize (e + bl X.natAbs + 4000).toNat = s at *
   generalize ((0 : Int) + 4000).toNat = r at *
   have := Nat.pow_le_pow_right (n := 2) (by omega) l
   rw [Int.one_mul, Int.one_mul]
   exact_mod_cast this
  have v4 : vd 1 0 ≤ vd X e := MX.nq_le.1 (by rw [c_rat]; exact h)
  omega
theorem lg_3 (a : Sl X e) (h0 : 0 < X) : 0 ≤ lgI X e ∧ lgI X e ≤ 3 := by
 have lo := a.lo; have hi := a.hi
 have p := bl_pos (N := X.natAbs) (by omega)
 have nn := lg_nn a.ar (by have := a.pos h0; grind) h0
 have eL : lgI X e = e + bl X.natAbs - 1 := by unfold lgI; rw [if_neg (by omega)]
 have v := (lg_vd (X := X) (e := e) h0 ⟨by omega, by omega⟩ (by omega)).1
 have l2 : vd X e ≤ vd 1 3 := MX.nq_le.1 (by rw [p2_3]; exact a.b.2)
 have s := Int.le_trans v l2
 unfold vd at s
 rw [Int.one_mul, Int.one_mul] at s
 have := pw_le s
 omega
end Go.Proofs.YtjlbngjeekdfcaaGreatDoor
namespace Go.Proofs.YtjlbngjeekdfcaaGreatDoor
variable {P R X e : Int} {W q : Nat}
set_option linter.unusedVariables false
open Go.RowKit
open MX (bLo bHi tA tZ xK xR xS yR yS uR uS gR gS hR hS wK wR wS vJ vKi vN vLo vHi nq Hd Rb Rr lam al um E p2 sn cs)
def rcL (P : Int) (q : Nat) : Int := flI P (-((q + 40 : Nat) : Int) + q)
def rcH (R : Int) (q : Nat) : Int := -flI (-R) (-((q + 40 : Nat) : Int) + q)
theorem rc_is (X : Int) (q : Nat) : flI X (-((q + 40 : Nat) : Int) + q) = X / 1099511627776 := by
 have e : -((q + 40 : Nat) : Int) + q = -40 := by omega
 rw [e]; unfold flI; rw [if_pos (by omega)]; rfl
theorem rc_bd (h : -(2000 * twP (q + 40)) ≤ X ∧ X ≤ 2000 * twP (q + 40)) : (-(2000 * twP q) ≤ rcL X q ∧ rcL X q ≤ 2000 * twP q) ∧ -(2000 * twP q) ≤ rcH X q ∧ rcH X q ≤ 2000 * twP q := by
 unfold rcL rcH
 rw [rc_is, rc_is]
 rw [tw_add, show twP 40 = 1099511627776 by rfl] at h
 generalize twP q = T at *
 omega
theorem rc_bd64 (h : -(64 * twP (q + 40)) ≤ X ∧ X ≤ 64 * twP (q + 40)) : (-(64 * twP q) ≤ rcL X q ∧ rcL X q ≤ 64 * twP q) ∧ -(64 * twP q) ≤ rcH X q ∧ rcH X q ≤ 64 * twP q := by
 unfold rcL rcH
 rw [rc_is, rc_is]
 rw [tw_add, show twP 40 = 1099511627776 by rfl] at h
 generalize twP q = T at *
 omega
theorem rc_le (h : P ≤ R) : rcL P q ≤ rcH R q := by
 unfold rcL rcH
 rw [rc_is, rc_is]
 omega
structure En (P R : Int) (W : Nat) : Prop where
 le : P ≤ R
 lo : -(2000 * twP W) ≤ P
 hi : R ≤ 2000 * twP W
theorem En.si (h : En P R (q + 40)) (hq : q < 216) : rcL P q ≤ rcH R q ∧ Si P 8 ∧ Si R 8 ∧ Si (rcL P q) 8 ∧ Si (rcH R q) 8 := by
 have l := h.le; have a := h.lo; have b := h.hi
 have c := rc_bd (X := P) (q := q) (by omega)
 have d := rc_bd (X := R) (q := q) (by omega)
 exact ⟨rc_le l, sw_si (w := q + 40) (by omega) (by omega) (by omega), sw_si (w := q + 40) (by omega) (by omega) (by omega), sw_si (w := q) (by omega) c.1.1 c.1.2, sw_si (w := q) (by omega) d.2.1 d.2.2⟩
theorem exp_en (a : Ar X e) (hW : 40 ≤ W ∧ W < 256) : En (rwLo 0 (xR X e W) W (W / 4 + 10)) (rwHi 0 (xS X e W) W (W / 4 + 10)) W := by
 have x := MX.xR_ok hW (show -4000 ≤ e by have := a.lo; omega) a.b
 have h := MX.x_hd hW (show -4000 ≤ e by have := a.lo; omega) a.b (W / 4 + 10) (by omega)
 have p := tw_pos W
 have r1 := rw_nb (kind := 0) (t := xR X e W) (w := W) (n := W / 4 + 10) x.1 (by omega) (by omega)
 have r2 := rw_nb (kind := 0) (t := xS X e W) (w := W) (n := W / 4 + 10) (by omega) (by omega) (by omega)
 exact ⟨h.le, by omega, by omega⟩
theorem exp2_en (a : Ar X e) (hX : Si X 8) (hW : 40 ≤ W ∧ W < 256) : En (rwLo 0 (yR (r2M X e) (r2E X e) W) W (W / 4 + 10)) (rwHi 0 (yS (r2M X e) (r2E X e) W) W (W / 4 + 10)) W := by
 have r2 := a.r2 hX (by omega)
 have y := y_si hW r2.1.1 r2.2.2
 have h := MX.y_hd hW r2.1.1 r2.2.2 (W / 4 + 10) (by omega)
 have p := tw_pos W
 have s1 := rw_nb (kind := 0) (t := yR (r2M X e) (r2E X e) W) (w := W) (n := W / 4 + 10) y.2.1.1 (by omega) (by omega)
 have s2 := rw_nb (kind := 0) (t := yS (r2M X e) (r2E X e) W) (w := W) (n := W / 4 + 10) (by omega) (by omega) (by omega)
 exact ⟨h.le, by omega, by omega⟩
theorem log_en (a : Ar X e) (h0 : 0 < X) (hl : -100 ≤ lgI X e) (hW : 40 ≤ W ∧ W < 256) : En (gR X (e - lgI X e) (lgI X e) W (W / 3 + 2)) (gS X (e - lgI X e) (lgI X e) W (W / 3 + 2)) W := by
 have s := a.sh h0 hl
 have l := a.lg.1
 have n := S_nb (n := W / 3 + 2) hW s.2.1.1 s.2.2 (by omega)
 have k := ln_kb hW.1 hW.2 (K := lgI X e) ⟨hl, by omega⟩
 have p := tw_pos W
 unfold gR gS
 exact ⟨by omega, by omega, by omega⟩
theorem log2_en (a : Ar X e) (h0 : 0 < X) (hl : -100 ≤ lgI X e) (hW : 40 ≤ W ∧ W < 256) : En (hR X (e - lgI X e) (lgI X e) W (W / 3 + 2)) (hS X (e - lgI X e) (lgI X e) W (W / 3 + 2)) W := by
 have s := a.sh h0 hl
 have l := a.lg.1
 have n := S_nb (n := W / 3 + 2) hW s.2.1.1 s.2.2 (by omega)
 have k := q_nb (a := rwLo 1 (uR X (e - lgI X e) W) W (W / 3 + 2) * 2) (b := rwHi 1 (uS X (e - lgI X e) W) W (W / 3 + 2) * 2) hW (by omega)
 have p := tw_pos W
 have m1 : twP W * lgI X e ≤ twP W * 100 := Int.mul_le_mul_of_nonneg_left (by omega) (by omega)
 have m2 : twP W * -100 ≤ twP W * lgI X e := Int.mul_le_mul_of_nonneg_left (by omega) (by omega)
 unfold hR hS
 exact ⟨by omega, by omega, by omega⟩
theorem wave_en {co neg : Bool} (a : Ar X e) (hW : 40 ≤ W ∧ W < 256) : En (vLo co neg (X.natAbs : Int) e W (W / 8 + 6)) (vHi co neg (X.natAbs : Int) e W (W / 8 + 6)) W := by
 have hE : -4000 ≤ e := by have := a.lo; omega
 have h : 0 ≤ nq (X.natAbs : Int) e ∧ nq (X.natAbs : Int) e ≤ nq 64 0 := by
  refine ⟨nq_nn (by omega), ?_⟩
  rcases (show (X.natAbs : Int) = X ∨ (X.natAbs : Int) = -X by omega) with g | g
  ·rw [g]; exact a.b.2
  ·rw [g]; exact a.neg.b.2
 have s := w_nb (n := W / 8 + 6) co hW hE h ⟨by omega, by omega⟩ (vK_in (vJ co (wK (X.natAbs : Int) e W)))
 have p := tw_pos W
 refine ⟨v_le hW hE h (by omega), ?_, ?_⟩
 ·unfold vLo; split <;> omega
 ·unfold vHi; split <;> omega
theorem log_64 (a : Sl X e) (h0 : 0 < X) (hq : q ≤ 127) : -(64 * twP (q + 40)) ≤ gR X (e - lgI X e) (lgI X e) (q + 40) ((q + 40) / 3 + 2) ∧ gS X (e - lgI X e) (lgI X e) (q + 40) ((q + 40) / 3 + 2) ≤ 64 * twP (q + 40) := by
 have l3 := lg_3 a h0
 have s := a.ar.sh h0 (by omega)
 obtain ⟨W, hWq⟩ : ∃ W, q + 40 = W := ⟨_, rfl⟩
 rw [hWq]
 have hW : 40 ≤ W ∧ W < 256 := by omega
 have n := S_nb (n := W / 3 + 2) hW s.2.1.1 s.2.2 (by omega)
 have u := u_si hW s.2.1.1 s.2.2
 have ln := MX.ln_bd hW.2
 have p := MX.tw_big hW.1
 have m1 : lnA W * lgI X e ≤ lnA W * 3 := Int.mul_le_mul_of_nonneg_left (by omega) (by omega)
 have m2 : lnZ W * lgI X e ≤ lnZ W * 3 := Int.mul_le_mul_of_nonneg_left (by omega) (by omega)
 have m3 : 0 ≤ lnA W * lgI X e := Int.mul_nonneg (by omega) (by omega)
 have m4 : 0 ≤ lnZ W * lgI X e := Int.mul_nonneg (by omega) (by omega)
 obtain ⟨t, ht⟩ : ∃ t, uS X (e - lgI X e) W = t := ⟨_, rfl⟩
 have ht0 : 0 ≤ t := by omega
 have ht1 : 2 * t ≤ twP W := by omega
 have td : ∀ k, 0 ≤ taD t W k ∧ taD t W k ≤ t := fun k => by
  have c := ta_cd2 (q := W) ht0 (show t ≤ twP W by omega) k
  refine ⟨by omega, ?_⟩
  have v : taV t W k ≤ t := upS_le ht0 (Int.mul_nonneg ht0 ht0) (fun _ => ta_pos W) (fun _ => Int.mul_le_mul (by omega) (by omega) ht0 (by omega)) (Int.le_refl t) k
  unfold taD
  refine (up_le (show (0 : Int) < 2 * k + 1 by omega)).2 (Int.le_trans v ?_)
  have := Int.mul_le_mul_of_nonneg_left (show (1 : Int) ≤ 2 * k + 1 by omega) ht0
  omega
 have sb := sum_bd (fun k => (td k).1) (fun k => (td k).2) (W / 3 + 2)
 have tn := (td (W / 3 + 2)).2
 have hm : ((W / 3 + 2 : Nat) : Int) * t ≤ 57 * t := Int.mul_le_mul_of_nonneg_right (by omega) ht0
 have hh : rwHi 1 t W (W / 3 + 2) ≤ 59 * t := by show sumI (taD t W) (W / 3 + 2) + 2 * taD t W (W / 3 + 2) ≤ _; omega
 unfold gR gS
 rw [ht] at *
 omega
theorem sh_exp : xK 0 0 48 = 0 ∧ rcL (rwLo 0 (xR 0 0 48) 48 (48 / 4 + 10)) 8 = 256 ∧ rcH (rwHi 0 (xS 0 0 48) 48 (48 / 4 + 10)) 8 = 256 := by
 have b1 : bLo 0 0 48 = 0 := by decide +kernel
 have b2 : bHi 0 0 48 = 0 := by decide +kernel
 have k : xK 0 0 48 = 0 := by unfold xK; rw [b1]; simp
 have r : xR 0 0 48 = 0 := by unfold xR; rw [k, b1]; simp
 have s : xS 0 0 48 = 0 := by unfold xS; rw [k, b1, b2]; simp
 rw [r, s]
 exact ⟨k, by decide +kernel, by decide +kernel⟩
theorem sh_r2 : flI (-3) 0 = -3 ∧ r2M (-3) 0 = 0 ∧ r2E (-3) 0 = 0 := by decide +kernel
theorem sh_exp2 : flI (-3) 0 = -3 ∧ rcL (rwLo 0 (yR (r2M (-3) 0) (r2E (-3) 0) 48) 48 (48 / 4 + 10)) 8 = 256 ∧ rcH (rwHi 0 (yS (r2M (-3) 0) (r2E (-3) 0) 48) 48 (48 / 4 + 10)) 8 = 256 := by
 obtain ⟨f, m, e⟩ := sh_r2
 rw [m, e]
 have b1 : bLo 0 0 48 = 0 := by decide +kernel
 have b2 : bHi 0 0 48 = 0 := by decide +kernel
 have z : flI 0 (-((48 : Nat) : Int)) = 0 := by decide +kernel
 have r : yR 0 0 48 = 0 := by unfold yR mn4; rw [b1, b2]; simp only [Int.zero_mul, z]; rfl
 have s : yS 0 0 48 = 0 := by unfold yS mx4; rw [b1, b2]; simp only [Int.zero_mul, Int.neg_zero, z]; rfl
 rw [r, s]
 exact ⟨f, by decide +kernel, by decide +kernel⟩
theorem sh_log : lgI 1 0 = 0 ∧ rcL (gR 1 (0 - lgI 1 0) (lgI 1 0) 48 (48 / 3 + 2)) 8 = 0 ∧ rcH (gS 1 (0 - lgI 1 0) (lgI 1 0) 48 (48 / 3 + 2)) 8 = 0 := by
 have l : lgI 1 0 = 0 := by decide +kernel
 have u : uR 1 0 48 = 0 := by decide +kernel
 have v : uS 1 0 48 = 0 := by decide +kernel
 rw [l]
 unfold gR gS
 rw [show (0 : Int) - 0 = 0 by rfl, u, v, Int.mul_zero, Int.mul_zero]
 exact ⟨rfl, by decide +kernel, by decide +kernel⟩
theorem sh_sin : rcL (vLo false (decide ((0 : Int) < 0)) (((0 : Int).natAbs : Nat) : Int) 0 48 (48 / 8 + 6)) 8 = 0 ∧ rcH (vHi false (decide ((0 : Int) < 0)) (((0 : Int).natAbs : Nat) : Int) 0 48 (48 / 8 + 6)) 8 = 0 := by
 have b1 : bLo 0 0 48 = 0 := by decide +kernel
 have b2 : bHi 0 0 48 = 0 := by decide +kernel
 have k : wK 0 0 48 = 0 := by unfold wK; rw [b1]; simp
 have r : wR 0 0 48 = 0 := by unfold wR; rw [k, b1]; simp
 have s : wS 0 0 48 = 0 := by unfold wS; rw [k, b2]; simp
 rw [show ((((0 : Int).natAbs : Nat) : Int)) = 0 by rfl]
 unfold vLo vHi
 rw [k, r, s]
 exact ⟨by decide +kernel, by decide +kernel⟩
end Go.Proofs.YtjlbngjeekdfcaaGreatDoor
