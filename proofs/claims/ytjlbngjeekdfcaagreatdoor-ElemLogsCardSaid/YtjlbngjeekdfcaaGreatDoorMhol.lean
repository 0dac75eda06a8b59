/-
 what balls hold: sums, products, quotients; exp, logarithms, waves.
-/
import Derived.Test.YtjlbngjeekdfcaaGreatDoorMwav
import Derived.Test.YtjlbngjeekdfcaaGreatDoorLpoint
namespace Go.Proofs.YtjlbngjeekdfcaaGreatDoor.MX
variable {K U W X Y a b e f k p q u : Int} {n w : Nat}
set_option linter.unusedVariables false
open Rg
def T4 : Rat := ((2 ^ 4000 : Int) : Rat)
theorem tp_pos (k : Nat) : (0 : Rat) < ((2 ^ k : Int) : Rat) := by
 have := two_pow_pos k
 exact_mod_cast this
theorem T4_pos : 0 < T4 := tp_pos 4000
def nq (X e : Int) : Rat := ((vd X e : Int) : Rat) / T4
theorem nq_T (X e : Int) : nq X e * T4 = ((vd X e : Int) : Rat) := by
 have := T4_pos
 unfold nq; rw [Rat.div_def, Rat.mul_assoc, Rat.inv_mul_cancel _ (by grind), Rat.mul_one]
theorem nq_le : nq X e ≤ nq Y f ↔ vd X e ≤ vd Y f := by
 have h := T4_pos
 have a := nq_T X e; have b := nq_T Y f
 constructor
 ·intro k
  have := Rat.mul_le_mul_of_nonneg_right k (show 0 ≤ T4 by grind)
  rw [a, b] at this
  exact_mod_cast this
 ·intro k
  have k2 : ((vd X e : Int) : Rat) ≤ ((vd Y f : Int) : Rat) := by exact_mod_cast k
  rw [← a, ← b] at k2
  rcases (show nq X e ≤ nq Y f ∨ nq Y f < nq X e by grind) with c | c
  ·exact c
  ·have := Rat.mul_lt_mul_of_pos_left c h; grind
theorem T4_can {x y : Rat} (h : x * T4 = y * T4) : x = y := by
 have := T4_pos
 rcases (show x = y ∨ x < y ∨ y < x by grind) with c | c | c
 ·exact c
 ·have := Rat.mul_lt_mul_of_pos_left c T4_pos; grind
 ·have := Rat.mul_lt_mul_of_pos_left c T4_pos; grind
theorem nq_add (X Y e : Int) : nq (X + Y) e = nq X e + nq Y e := by
 refine T4_can ?_
 rw [nq_T, Rat.add_mul, nq_T, nq_T, ← Rat.intCast_add]
 unfold vd; rw [Int.add_mul]
theorem nq_neg (X e : Int) : nq (-X) e = -nq X e := by
 refine T4_can ?_
 rw [nq_T, Rat.neg_mul, nq_T, ← Rat.intCast_neg, vd_neg]
theorem nq_sub (X Y e : Int) : nq (X - Y) e = nq X e - nq Y e := by rw [show X - Y = X + -Y by omega, nq_add, nq_neg]; grind
theorem nq_muli (X K e : Int) : nq (X * K) e = nq X e * K := by
 refine T4_can ?_
 rw [nq_T, Rat.mul_assoc, Rat.mul_comm (K : Rat), ← Rat.mul_assoc, nq_T, ← Rat.intCast_mul]
 unfold vd; rw [Int.mul_assoc, Int.mul_assoc, Int.mul_comm K]
theorem nq_mul (he : -4000 ≤ e) (hf : -4000 ≤ f) (h : -4000 ≤ e + f) : nq X e * nq Y f = nq (X * Y) (e + f) := by
 refine T4_can (T4_can ?_)
 have a := nq_T X e; have b := nq_T Y f; have c := nq_T (X * Y) (e + f)
 have k : vd X e * vd Y f = vd (X * Y) (e + f) * 2 ^ 4000 := by
  unfold vd
  rw [Int.mul_assoc (X * Y), ipow_add, show X * 2 ^ (e + 4000).toNat * (Y * 2 ^ (f + 4000).toNat) = X * Y * (2 ^ (e + 4000).toNat * 2 ^ (f + 4000).toNat) by
   generalize (2 : Int) ^ (e + 4000).toNat = u
   generalize (2 : Int) ^ (f + 4000).toNat = v
   grind, ipow_add, show (e + 4000).toNat + (f + 4000).toNat = (e + f + 4000).toNat + 4000 by omega]
 have k2 : ((vd X e : Int) : Rat) * ((vd Y f : Int) : Rat) = ((vd (X * Y) (e + f) : Int) : Rat) * T4 := by
  unfold T4; rw [← Rat.intCast_mul, ← Rat.intCast_mul, k]
 rw [← a, ← b, ← c] at k2
 grind
theorem nq_pt (X : Int) {q : Nat} (hq : q ≤ 4000) : ptQ X q = nq X (-(q : Int)) := by
 have hp : (0 : Rat) < (twP q : Int) := by exact_mod_cast tw_pos q
 refine T4_can ?_
 rw [nq_T]
 have h := pt_mul X q
 have e : (twP q : Int) * 2 ^ (4000 - q) = (2 : Int) ^ 4000 := by
  unfold twP; rw [ipow_add, show q + (4000 - q) = 4000 by omega]
 have e2 : T4 = ((twP q : Int) : Rat) * ((2 ^ (4000 - q) : Int) : Rat) := by unfold T4; rw [← e, Rat.intCast_mul]
 rw [e2, ← Rat.mul_assoc, ← h, ← Rat.intCast_mul]
 unfold vd
 rw [show (-(q : Int) + 4000).toNat = 4000 - q by omega]
def Hd (X Y : Int) (q : Int) (V : Nat → Rat) : Prop := ∀ d : Rat, 0 < d → ∃ N, ∀ n, N ≤ n → nq X (-q) ≤ V n + d ∧ V n ≤ nq Y (-q) + d
theorem Hd.rr {V W : Nat → Rat} (h : Hd X Y q V) (k : Rr V W) : Hd X Y q W := fun d hd => by
 obtain ⟨N, hN⟩ := h (d / 2) (half2 hd)
 obtain ⟨M, hM⟩ := k (d / 2) (half2 hd)
 refine ⟨N + M, fun n hn => ?_⟩
 have := hN n (by omega); have := hM n (by omega)
 constructor <;> grind
theorem Hd.wide {V : Nat → Rat} (h : Hd X Y q V) (h1 : nq U (-p) ≤ nq X (-q)) (h2 : nq Y (-q) ≤ nq W (-p)) : Hd U W p V := fun d hd => by
 obtain ⟨N, hN⟩ := h d hd
 refine ⟨N, fun n hn => ?_⟩
 have := hN n hn
 constructor <;> grind
theorem fl_low (he : -4000 ≤ e) (hq : q ≤ 4000) : nq (flI X (e + q)) (-q) ≤ nq X e := nq_le.2 ((le_flI he hq).1 (Int.le_refl _))
theorem fl_high (he : -4000 ≤ e) (hq : q ≤ 4000) : nq X e ≤ nq (-flI (-X) (e + q)) (-q) := nq_le.2 ((ceI_le he hq).1 (Int.le_refl _))
theorem hd_point {M : Int} (he : -4000 ≤ e) (hq : q ≤ 4000) : Hd (flI M (e + q)) (-flI (-M) (e + q)) q (fun _ => nq M e) := fun d hd => ⟨0, fun n _ => by
 have := fl_low (X := M) he hq; have := fl_high (X := M) he hq
 dsimp only
 constructor <;> grind⟩
theorem Hd.recast {V : Nat → Rat} (h : Hd X Y q V) (hq : q ≤ 4000) (hp : p ≤ 4000) : Hd (flI X (-q + p)) (-flI (-Y) (-q + p)) p V := h.wide (fl_low (by omega) hp) (fl_high (by omega) hp)
theorem Hd.add {V V' : Nat → Rat} (h : Hd X Y q V) (k : Hd U W q V') : Hd (X + U) (Y + W) q (fun n => V n + V' n) := fun d hd => by
 obtain ⟨N, hN⟩ := h (d / 2) (half2 hd)
 obtain ⟨M, hM⟩ := k (d / 2) (half2 hd)
 refine ⟨N + M, fun n hn => ?_⟩
 have := hN n (by omega); have := hM n (by omega)
 rw [nq_add, nq_add]
 constructor <;> grind
theorem Hd.neg {V : Nat → Rat} (h : Hd X Y q V) : Hd (-Y) (-X) q (fun n => -V n) := fun d hd => by
 obtain ⟨N, hN⟩ := h d hd
 refine ⟨N, fun n hn => ?_⟩
 have := hN n hn
 rw [nq_neg, nq_neg]
 constructor <;> grind
theorem Hd.sub {V V' : Nat → Rat} (h : Hd X Y q V) (k : Hd U W q V') : Hd (X - W) (Y - U) q (fun n => V n - V' n) := by
 have := h.add k.neg
 rw [show X - W = X + -W by omega, show Y - U = Y + -U by omega]
 have e : (fun n => V n - V' n) = (fun n => V n + -V' n) := funext fun n => by grind
 rw [e]; exact this
theorem Hd.timesp {V : Nat → Rat} (h : Hd X Y q V) (hK : 0 ≤ K) : Hd (X * K) (Y * K) q (fun n => V n * K) := fun d hd => by
 have k0 : (0 : Rat) ≤ (K : Rat) := by exact_mod_cast hK
 obtain ⟨N, hN⟩ := h (d / (K + 1)) (div_pos hd (by grind))
 refine ⟨N, fun n hn => ?_⟩
 have a := hN n hn
 have b := div_le (show (0 : Rat) < K + 1 by grind) (show d / (K + 1) ≤ d / (K + 1) from Rat.le_refl)
 have c := div_pos hd (show (0 : Rat) < K + 1 by grind)
 rw [nq_muli, nq_muli]
 generalize d / ((K : Rat) + 1) = i at *
 have a1 := Rat.mul_le_mul_of_nonneg_right a.1 k0
 have a2 := Rat.mul_le_mul_of_nonneg_right a.2 k0
 constructor <;> grind
theorem Hd.timesn {V : Nat → Rat} (h : Hd X Y q V) (hK : K ≤ 0) : Hd (Y * K) (X * K) q (fun n => V n * K) := by
 have := (h.timesp (K := -K) (by omega)).neg
 rw [show -(Y * -K) = Y * K by rw [Int.mul_neg]; omega, show -(X * -K) = X * K by rw [Int.mul_neg]; omega] at this
 have e : (fun n => -(V n * ((-K : Int) : Rat))) = (fun n => V n * K) := funext fun n => by rw [Rat.intCast_neg]; grind
 rw [e] at this; exact this
theorem Hd.met {V : Nat → Rat} (h : Hd X Y q V) (k : Hd U W p V) : vd X (-q) ≤ vd W (-p) := by
 rw [← nq_le]
 rcases (show nq X (-q) ≤ nq W (-p) ∨ nq W (-p) < nq X (-q) by grind) with c | c
 ·exact c
 ·obtain ⟨N, hN⟩ := h ((nq X (-q) - nq W (-p)) / 3) (by grind)
  obtain ⟨M, hM⟩ := k ((nq X (-q) - nq W (-p)) / 3) (by grind)
  have := (hN (N + M) (by omega)).1; have := (hM (N + M) (by omega)).2
  grind
theorem met_of {V : Nat → Rat} (h : Hd X Y q V) (k : Hd U W p V) (h1 : 0 ≤ q ∧ q ≤ 2048 ∧ X ≤ Y) (h2 : 0 ≤ p ∧ p ≤ 2048 ∧ U ≤ W) : metB X Y q U W p = true := decide_eq_true ⟨h1, h2, h.met k, k.met h⟩
theorem mulr_between {a b c d x y : Rat} (hx : a ≤ x ∧ x ≤ b) (hy : c ≤ y ∧ y ≤ d) : (a * c ≤ x * y ∨ a * d ≤ x * y ∨ b * c ≤ x * y ∨ b * d ≤ x * y) ∧ (x * y ≤ a * c ∨ x * y ≤ a * d ∨ x * y ≤ b * c ∨ x * y ≤ b * d) := by
 have key : ∀ z : Rat, (a * z ≤ x * z ∧ x * z ≤ b * z) ∨ (b * z ≤ x * z ∧ x * z ≤ a * z) := fun z => by
  rcases (show 0 ≤ z ∨ z ≤ 0 by grind) with h | h
  ·exact .inl ⟨Rat.mul_le_mul_of_nonneg_right hx.1 h, Rat.mul_le_mul_of_nonneg_right hx.2 h⟩
  ·have i := Rat.mul_le_mul_of_nonneg_right hx.1 (show 0 ≤ -z by grind)
   have j := Rat.mul_le_mul_of_nonneg_right hx.2 (show 0 ≤ -z by grind)
   exact .inr ⟨by grind, by grind⟩
 have key2 : (x * c ≤ x * y ∧ x * y ≤ x * d) ∨ (x * d ≤ x * y ∧ x * y ≤ x * c) := by
  rcases (show 0 ≤ x ∨ x ≤ 0 by grind) with h | h
  ·exact .inl ⟨Rat.mul_le_mul_of_nonneg_left hy.1 h, Rat.mul_le_mul_of_nonneg_left hy.2 h⟩
  ·have i := Rat.mul_le_mul_of_nonneg_left hy.1 (show 0 ≤ -x by grind)
   have j := Rat.mul_le_mul_of_nonneg_left hy.2 (show 0 ≤ -x by grind)
   exact .inr ⟨by grind, by grind⟩
 have k1 := key c
 have k2 := key d
 grind
def clp (a b x : Rat) : Rat := if x < a then a else if b < x then b else x
theorem clp_in {a b x : Rat} (h : a ≤ b) : a ≤ clp a b x ∧ clp a b x ≤ b := by unfold clp; split <;> (try split) <;> constructor <;> grind
theorem clp_near {a b x d : Rat} (hd : 0 ≤ d) (h1 : a ≤ x + d) (h2 : x ≤ b + d) : clp a b x ≤ x + d ∧ x ≤ clp a b x + d := by unfold clp; split <;> (try split) <;> constructor <;> grind
theorem mn4_le (f : Int → Int → Int) (X Y U W : Int) : mn4 f X Y U W ≤ f X U ∧ mn4 f X Y U W ≤ f X W ∧ mn4 f X Y U W ≤ f Y U ∧ mn4 f X Y U W ≤ f Y W := by unfold mn4; omega
theorem le_mx4 (f : Int → Int → Int) (X Y U W : Int) : f X U ≤ mx4 f X Y U W ∧ f X W ≤ mx4 f X Y U W ∧ f Y U ≤ mx4 f X Y U W ∧ f Y W ≤ mx4 f X Y U W := by unfold mx4; omega
theorem nq_mono (h : X ≤ Y) : nq X e ≤ nq Y e := nq_le.2 (vd_le.2 h)
theorem Hd.mul {V V' : Nat → Rat} (hq : 0 ≤ q ∧ q ≤ 2000) (hXY : X ≤ Y) (hUW : U ≤ W) (h : Hd X Y q V) (k : Hd U W q V') (bV : Rb V) : Hd (mn4 (fun x y => flI (x * y) (-q)) X Y U W) (mx4 (fun x y => -flI (-(x * y)) (-q)) X Y U W) q (fun n => V n * V' n) := fun d hd => by
 obtain ⟨B, hB, bB⟩ := bV
 have l1 := nq_mono (e := -q) hXY
 have l2 := nq_mono (e := -q) hUW
 -- a bound for all
 obtain ⟨C, hC, c1, c2⟩ : ∃ C : Rat, 0 < C ∧ B ≤ C ∧ (ab (nq U (-q)) + ab (nq W (-q)) ≤ C) := ⟨B + (ab (nq U (-q)) + ab (nq W (-q))) + 1, by have := ab_nn (nq U (-q)); have := ab_nn (nq W (-q)); grind, by have := ab_nn (nq U (-q)); have := ab_nn (nq W (-q)); grind, by grind⟩
 have hi := div_pos hd (show 0 < C + C by grind)
 have hi2 := div_le (show 0 < C + C by grind) (show d / (C + C) ≤ d / (C + C) from Rat.le_refl)
 obtain ⟨N, hN⟩ := h (d / (C + C)) hi
 obtain ⟨M, hM⟩ := k (d / (C + C)) hi
 refine ⟨N + M, fun n hn => ?_⟩
 have a1 := hN n (by omega); have a2 := hM n (by omega)
 have b0 := bB n
 generalize d / (C + C) = i at *
 have p1 := clp_in (x := V n) l1
 have p2 := clp_in (x := V' n) l2
 have r1 := clp_near (Rat.le_of_lt hi) a1.1 a1.2
 have r2 := clp_near (Rat.le_of_lt hi) a2.1 a2.2
 have bt := mulr_between p1 p2
 have pr : ∀ x y : Int, nq x (-q) * nq y (-q) = nq (x * y) (-q + -q) := fun x y => nq_mul (by omega) (by omega) (by omega)
 have lo : ∀ x y : Int, nq (flI (x * y) (-q)) (-q) ≤ nq x (-q) * nq y (-q) := fun x y => by
  rw [pr]; have := fl_low (X := x * y) (e := -q + -q) (q := q) (by omega) (by omega)
  rw [show -q + -q + q = -q by omega] at this; exact this
 have hi' : ∀ x y : Int, nq x (-q) * nq y (-q) ≤ nq (-flI (-(x * y)) (-q)) (-q) := fun x y => by
  rw [pr]; have := fl_high (X := x * y) (e := -q + -q) (q := q) (by omega) (by omega)
  rw [show -q + -q + q = -q by omega] at this; exact this
 have mn := mn4_le (fun x y => flI (x * y) (-q)) X Y U W
 have mx := le_mx4 (fun x y => -flI (-(x * y)) (-q)) X Y U W
 have n1 := nq_mono (e := -q) mn.1; have n2 := nq_mono (e := -q) mn.2.1; have n3 := nq_mono (e := -q) mn.2.2.1; have n4 := nq_mono (e := -q) mn.2.2.2
 have m1 := nq_mono (e := -q) mx.1; have m2 := nq_mono (e := -q) mx.2.1; have m3 := nq_mono (e := -q) mx.2.2.1; have m4 := nq_mono (e := -q) mx.2.2.2
 have f1 := lo X U; have f2 := lo X W; have f3 := lo Y U; have f4 := lo Y W
 have g1 := hi' X U; have g2 := hi' X W; have g3 := hi' Y U; have g4 := hi' Y W
 generalize mn4 (fun x y => flI (x * y) (-q)) X Y U W = L at *
 generalize mx4 (fun x y => -flI (-(x * y)) (-q)) X Y U W = H at *
 generalize clp (nq X (-q)) (nq Y (-q)) (V n) = v at *
 generalize clp (nq U (-q)) (nq W (-q)) (V' n) = v' at *
 -- how far the products differ
 have w1 : -C ≤ v' ∧ v' ≤ C := by
  have a := le_ab (nq W (-q)); have b := le_ab (-nq U (-q)); rw [ab_neg] at b
  have := ab_nn (nq U (-q)); have := ab_nn (nq W (-q))
  constructor <;> grind
 have w2 : -C ≤ V n ∧ V n ≤ C := by constructor <;> grind
 have prod : ∀ x y z : Rat, -C ≤ y → y ≤ C → x ≤ i → -x ≤ i → x * y ≤ i * C := fun x y z y1 y2 x1 x2 => by
  rcases (show 0 ≤ y ∨ y ≤ 0 by grind) with s | s
  ·have := mul_le2 (show 0 ≤ y by grind) (show 0 ≤ i by grind) y2 x1; grind
  ·have := mul_le2 (show 0 ≤ -y by grind) (show 0 ≤ i by grind) (show -y ≤ C by grind) x2; grind
 have e1 := prod (v - V n) v' 0 w1.1 w1.2 (by grind) (by grind)
 have e2 := prod (V n - v) v' 0 w1.1 w1.2 (by grind) (by grind)
 have e3 := prod (v' - V' n) (V n) 0 w2.1 w2.2 (by grind) (by grind)
 have e4 := prod (V' n - v') (V n) 0 w2.1 w2.2 (by grind) (by grind)
 have s1 : v * v' ≤ V n * V' n + d := by grind
 have s2 : V n * V' n ≤ v * v' + d := by grind
 have t1 : nq L (-q) ≤ v * v' := by rcases bt.1 with b | b | b | b <;> grind
 have t2 : v * v' ≤ nq H (-q) := by rcases bt.2 with b | b | b | b <;> grind
 dsimp only
 constructor <;> grind
theorem nq_shl (x : Int) {q : Int} (hq : 0 ≤ q ∧ q ≤ 2000) : nq (x * 2 ^ q.toNat) (-q + -q) = nq x (-q) := by
 refine T4_can ?_
 rw [nq_T, nq_T]
 unfold vd
 rw [Int.mul_assoc, ipow_add, show q.toNat + (-q + -q + 4000).toNat = (-q + 4000).toNat by omega]
theorem nq_pos (h : 0 < u) : 0 < nq u e := by
 have a : nq 0 e = 0 := by
  refine T4_can ?_
  rw [nq_T]; unfold vd; rw [Int.zero_mul]; grind
 have : ¬ nq u e ≤ nq 0 e := by rw [nq_le, vd_le]; omega
 rw [a] at this; grind
theorem fd_nq {x : Int} (hq : 0 ≤ q ∧ q ≤ 2000) (hu : 0 < u) : nq (fdI (x * 2 ^ q.toNat) u) (-q) * nq u (-q) ≤ nq x (-q) ∧ nq x (-q) ≤ nq (cdI (x * 2 ^ q.toNat) u) (-q) * nq u (-q) := by
 have a := fdI_mul_pos (x := x * 2 ^ q.toNat) hu
 have b := cdI_mul_pos (x := x * 2 ^ q.toNat) hu
 rw [nq_mul (by omega) (by omega) (by omega), nq_mul (by omega) (by omega) (by omega), ← nq_shl x hq]
 exact ⟨nq_mono a, nq_mono b⟩
theorem Hd.div {V V' Z : Nat → Rat} (hq : 0 ≤ q ∧ q ≤ 2000) (hXY : X ≤ Y) (hUW : U ≤ W) (hU : 0 < U) (h : Hd X Y q V) (k : Hd U W q V') (N0 : Nat) (hZ : ∀ n, N0 ≤ n → Z n * V' n = V n) :
  Hd (mn4 (fun x y => fdI (x * 2 ^ q.toNat) y) X Y U W) (mx4 (fun x y => cdI (x * 2 ^ q.toNat) y) X Y U W) q Z := fun d hd => by
 have l1 := nq_mono (e := -q) hXY
 have l2 := nq_mono (e := -q) hUW
 have u0 := nq_pos (e := -q) hU
 have mn := mn4_le (fun x y => fdI (x * 2 ^ q.toNat) y) X Y U W
 have mx := le_mx4 (fun x y => cdI (x * 2 ^ q.toNat) y) X Y U W
 have n1 := nq_mono (e := -q) mn.1; have n2 := nq_mono (e := -q) mn.2.1
 have m3 := nq_mono (e := -q) mx.2.2.1; have m4 := nq_mono (e := -q) mx.2.2.2
 have f1 := (fd_nq (x := X) (u := U) hq hU).1; have f2 := (fd_nq (x := X) (u := W) hq (by omega)).1
 have g3 := (fd_nq (x := Y) (u := U) hq hU).2; have g4 := (fd_nq (x := Y) (u := W) hq (by omega)).2
 generalize nq (mn4 (fun x y => fdI (x * 2 ^ q.toNat) y) X Y U W) (-q) = L at *
 generalize nq (mx4 (fun x y => cdI (x * 2 ^ q.toNat) y) X Y U W) (-q) = H at *
 generalize nq (fdI (X * 2 ^ q.toNat) U) (-q) = F1 at *
 generalize nq (fdI (X * 2 ^ q.toNat) W) (-q) = F2 at *
 generalize nq (cdI (Y * 2 ^ q.toNat) U) (-q) = G3 at *
 generalize nq (cdI (Y * 2 ^ q.toNat) W) (-q) = G4 at *
 have w0 : 0 < nq W (-q) := by grind
 -- the ends, times any number of the divisor
 have low : ∀ v, nq U (-q) ≤ v → v ≤ nq W (-q) → L * v ≤ nq X (-q) := fun v v1 v2 => by
  rcases (show 0 ≤ L ∨ L ≤ 0 by grind) with s | s
  ·have a := Rat.mul_le_mul_of_nonneg_left v2 s
   have b := Rat.mul_le_mul_of_nonneg_right n2 (Rat.le_of_lt w0)
   grind
  ·have a := Rat.mul_le_mul_of_nonneg_left v1 (show 0 ≤ -L by grind)
   have b := Rat.mul_le_mul_of_nonneg_right n1 (Rat.le_of_lt u0)
   grind
 have high : ∀ v, nq U (-q) ≤ v → v ≤ nq W (-q) → nq Y (-q) ≤ H * v := fun v v1 v2 => by
  rcases (show 0 ≤ H ∨ H ≤ 0 by grind) with s | s
  ·have a := Rat.mul_le_mul_of_nonneg_left v1 s
   have b := Rat.mul_le_mul_of_nonneg_right m3 (Rat.le_of_lt u0)
   grind
  ·have a := Rat.mul_le_mul_of_nonneg_left v2 (show 0 ≤ -H by grind)
   have b := Rat.mul_le_mul_of_nonneg_right m4 (Rat.le_of_lt w0)
   grind
 -- how near
 obtain ⟨u, hu, hu2⟩ : ∃ u : Rat, 0 < u ∧ u = nq U (-q) / 2 := ⟨nq U (-q) / 2, half2 u0, rfl⟩
 have C0 : 0 < 1 + ab L + ab H := by have := ab_nn L; have := ab_nn H; grind
 have du : 0 < d * u := Rat.mul_pos hd hu
 obtain ⟨i, hi, hi1, hi2⟩ : ∃ i : Rat, 0 < i ∧ i ≤ u ∧ i * (1 + ab L + ab H) ≤ d * u := by
  have p := div_pos du C0
  have e := div_le C0 (show d * u / (1 + ab L + ab H) ≤ d * u / (1 + ab L + ab H) from Rat.le_refl)
  rcases (show d * u / (1 + ab L + ab H) ≤ u ∨ u ≤ d * u / (1 + ab L + ab H) by grind) with s | s
  ·exact ⟨_, p, s, e⟩
  ·have := Rat.mul_le_mul_of_nonneg_right s (Rat.le_of_lt C0)
   exact ⟨u, hu, Rat.le_refl, by grind⟩
 obtain ⟨N, hN⟩ := h i hi
 obtain ⟨M, hM⟩ := k i hi
 refine ⟨N + M + N0, fun n hn => ?_⟩
 have a1 := hN n (by omega); have a2 := hM n (by omega); have a3 := hZ n (by omega)
 have p2 := clp_in (x := V' n) l2
 have r2 := clp_near (Rat.le_of_lt hi) a2.1 a2.2
 generalize clp (nq U (-q)) (nq W (-q)) (V' n) = v' at *
 have b1 := low v' p2.1 p2.2
 have b2 := high v' p2.1 p2.2
 have v0 : u ≤ V' n := by grind
 have eL : L * V' n ≤ L * v' + ab L * i := by
  rcases (show 0 ≤ L ∨ L ≤ 0 by grind) with s | s
  ·have := Rat.mul_le_mul_of_nonneg_left (show V' n ≤ v' + i by grind) s
   rw [ab_of s]; grind
  ·have := Rat.mul_le_mul_of_nonneg_left (show v' ≤ V' n + i by grind) (show 0 ≤ -L by grind)
   rw [← ab_neg, ab_of (show 0 ≤ -L by grind)]; grind
 have eH : H * v' ≤ H * V' n + ab H * i := by
  rcases (show 0 ≤ H ∨ H ≤ 0 by grind) with s | s
  ·have := Rat.mul_le_mul_of_nonneg_left (show v' ≤ V' n + i by grind) s
   rw [ab_of s]; grind
  ·have := Rat.mul_le_mul_of_nonneg_left (show V' n ≤ v' + i by grind) (show 0 ≤ -H by grind)
   rw [← ab_neg, ab_of (show 0 ≤ -H by grind)]; grind
 have dv := Rat.mul_le_mul_of_nonneg_left v0 (Rat.le_of_lt hd)
 have abL := ab_nn L; have abH := ab_nn H
 have iL := Rat.mul_nonneg abL (Rat.le_of_lt hi)
 have iH := Rat.mul_nonneg abH (Rat.le_of_lt hi)
 have c1 : L * V' n ≤ (Z n + d) * V' n := by grind
 have c2 : Z n * V' n ≤ (H + d) * V' n := by grind
 have vp : 0 < V' n := by grind
 have can : ∀ x y : Rat, x * V' n ≤ y * V' n → x ≤ y := fun x y hxy => by
  rcases (show x ≤ y ∨ y < x by grind) with s | s
  ·exact s
  ·have := Rat.mul_lt_mul_of_pos_right s vp; grind
 exact ⟨can _ _ c1, can _ _ c2⟩
theorem E_near {R : Rat} (hR : 0 ≤ R) : ∃ B : Rat, 0 < B ∧ ∀ n x y, -R ≤ x → x ≤ R → -R ≤ y → y ≤ R → ∀ i, 0 ≤ i → x ≤ y + i → y ≤ x + i → E n x ≤ E n y + i * B := by
 obtain ⟨B, hB, b⟩ := E_bd hR
 refine ⟨B + 1, by grind, fun n x y x1 x2 y1 y2 i hi h1 h2 => ?_⟩
 have l := E_lip (rl x) (rl y) (R := R) (by rw [nm_rl]; exact ab_le.2 ⟨x2, by grind⟩) (by rw [nm_rl]; exact ab_le.2 ⟨y2, by grind⟩) n
 rw [E_rl, E_rl] at l
 have e1 : nm (rl (E n x) - rl (E n y)) = ab (E n x - E n y) := by
  show ab (E n x - E n y) + ab ((0 : Rat) - 0) = _
  have : ab ((0 : Rat) - 0) = 0 := by unfold ab; grind
  grind
 have e2 : nm (rl x - rl y) = ab (x - y) := by
  show ab (x - y) + ab ((0 : Rat) - 0) = _
  have : ab ((0 : Rat) - 0) = 0 := by unfold ab; grind
  grind
 rw [e1, e2] at l
 have a := le_ab (E n x - E n y)
 have c : ab (x - y) ≤ i := ab_le.2 ⟨by grind, by grind⟩
 have f := mul_le2 (ab_nn (x - y)) (show 0 ≤ B + 1 by grind) c (show E n R ≤ B + 1 by have := b n; grind)
 grind
theorem E_mono {a b : Rat} (h : 0 ≤ a) (l : a ≤ b) (n : Nat) : E n a ≤ E n b := S_le fun i _ => ex_mono h l i
theorem Hd.exp {V : Nat → Rat} (hw : w ≤ 4000) (h0 : 0 ≤ a) (hab : a ≤ b) (hb : b ≤ twP w) (hn : 1 ≤ n) (h : Hd a b w V) (bV : Rb V) : Hd (rwLo 0 a w n) (rwHi 0 b w n) w (fun n => E n (V n)) := fun d hd => by
 obtain ⟨B, hB, bB⟩ := bV
 have ha1 := pt_nonneg (q := w) h0
 have hb0 := pt_nonneg (q := w) (show 0 ≤ b by omega)
 have hb1 := pt_le (q := w) hb
 have la := nq_mono (e := -(w : Int)) hab
 rw [nq_pt a hw] at ha1
 rw [nq_pt b hw] at hb0 hb1
 obtain ⟨C, hC, near⟩ := E_near (R := B + 1) (by grind)
 have hi := div_pos hd hC
 have hi2 := div_le hC (show d / C ≤ d / C from Rat.le_refl)
 obtain ⟨N, hN⟩ := h (d / C) hi
 refine ⟨N + n, fun m hm => ?_⟩
 have a1 := hN m (by omega)
 have s1 := (ex_in (q := w) (n := n) h0 (by omega) hn m (by omega)).1
 have s2 := (ex_in (q := w) (n := n) (show 0 ≤ b by omega) hb hn m (by omega)).2
 have hp : (0 : Rat) < (twP w : Int) := by exact_mod_cast tw_pos w
 have t1 : nq (rwLo 0 a w n) (-(w : Int)) ≤ E m (nq a (-(w : Int))) := by
  rw [← nq_pt _ hw, ← nq_pt _ hw]
  exact dv_le hp (by grind)
 have t2 : E m (nq b (-(w : Int))) ≤ nq (rwHi 0 b w n) (-(w : Int)) := by
  rw [← nq_pt _ hw, ← nq_pt _ hw]
  exact le_dvQ hp (by grind)
 have bb := bB m
 have p := clp_in (x := V m) la
 have r := clp_near (Rat.le_of_lt hi) a1.1 a1.2
 generalize clp (nq a (-(w : Int))) (nq b (-(w : Int))) (V m) = v at *
 have q1 := near m v (V m) (by grind) (by grind) (by grind) (by grind) (d / C) (Rat.le_of_lt hi) (by grind) (by grind)
 have q2 := near m (V m) v (by grind) (by grind) (by grind) (by grind) (d / C) (Rat.le_of_lt hi) (by grind) (by grind)
 have o1 := E_mono ha1 p.1 m
 have o2 := E_mono (show 0 ≤ v by grind) p.2 m
 dsimp only
 constructor <;> grind
theorem Hd.cst {u : Rat} (h : Hd X Y q (fun _ => u)) : nq X (-q) ≤ u ∧ u ≤ nq Y (-q) := by
 constructor
 ·rcases (show nq X (-q) ≤ u ∨ u < nq X (-q) by grind) with c | c
  ·exact c
  ·obtain ⟨N, hN⟩ := h ((nq X (-q) - u) / 2) (by grind)
   have := (hN N (Nat.le_refl _)).1
   grind
 ·rcases (show u ≤ nq Y (-q) ∨ nq Y (-q) < u by grind) with c | c
  ·exact c
  ·obtain ⟨N, hN⟩ := h ((u - nq Y (-q)) / 2) (by grind)
   have := (hN N (Nat.le_refl _)).2
   grind
theorem Hd.of_const {u : Rat} (h : nq X (-q) ≤ u ∧ u ≤ nq Y (-q)) : Hd X Y q (fun _ => u) := fun d hd => ⟨0, fun n _ => by
 dsimp only; constructor <;> grind⟩
theorem Hd.atanh {u : Rat} (hw : w ≤ 4000) (h0 : 0 ≤ a) (hab : a ≤ b) (hb : 2 * b ≤ twP w) (h : Hd a b w (fun _ => u)) : Hd (rwLo 1 a w n) (rwHi 1 b w n) w (fun m => al m u / 2) := fun d hd => by
 obtain ⟨h1, h2⟩ := h.cst
 have ha1 := pt_nonneg (q := w) h0
 refine ⟨2 * n, fun m hm => ?_⟩
 have s1 := (at_in (q := w) (n := n) h0 (by omega) m hm).1
 have s2 := (at_in (q := w) (n := n) (show 0 ≤ b by omega) hb m hm).2
 have hp : (0 : Rat) < (twP w : Int) := by exact_mod_cast tw_pos w
 have t1 : nq (rwLo 1 a w n) (-(w : Int)) ≤ al m (nq a (-(w : Int))) / 2 := by
  rw [← nq_pt _ hw, ← nq_pt _ hw]
  exact dv_le hp (by grind)
 have t2 : al m (nq b (-(w : Int))) / 2 ≤ nq (rwHi 1 b w n) (-(w : Int)) := by
  rw [← nq_pt _ hw, ← nq_pt _ hw]
  exact le_dvQ hp (by grind)
 rw [nq_pt a hw] at ha1
 have o1 := al_mono ha1 h1 m
 have o2 := al_mono (show 0 ≤ u by grind) h2 m
 dsimp only
 constructor <;> grind
theorem trig_rr {s t : Nat → Rat} (h : Rr s t) (bs : Rb s) (bt : Rb t) : Rr (fun n => cs n (s n)) (fun n => cs n (t n)) ∧ Rr (fun n => sn n (s n)) (fun n => sn n (t n)) := by
 have := Nr.E h.ni bs.im bt.im
 exact ⟨this.re, this.im⟩
theorem Hd.clp {V : Nat → Rat} (hab : a ≤ b) (h : Hd a b q V) : ∃ v : Nat → Rat, (∀ n, nq a (-q) ≤ v n ∧ v n ≤ nq b (-q)) ∧ Rr v V := by
 have l := nq_mono (e := -q) hab
 refine ⟨fun n => MX.clp (nq a (-q)) (nq b (-q)) (V n), fun n => clp_in l, fun d hd => ?_⟩
 obtain ⟨N, hN⟩ := h d hd
 refine ⟨N, fun n hn => ?_⟩
 have a1 := hN n hn
 exact clp_near (Rat.le_of_lt hd) a1.1 a1.2
theorem Hd.wave {V : Nat → Rat} (hw : w ≤ 4000) (h0 : 0 ≤ a) (hab : a ≤ b) (ha : a ≤ 2 * twP w) (hg : b - a ≤ twP w) (hn : 1 ≤ n) (h : Hd a b w V) (bV : Rb V) :
  Hd (rwLo 3 a w n - (b - a)) (rwHi 3 a w n + (b - a)) w (fun m => sn m (V m)) ∧ Hd (rwLo 4 a w n - (b - a)) (rwHi 4 a w n + (b - a)) w (fun m => cs m (V m)) := by
 obtain ⟨v, hv, rv⟩ := h.clp hab
 have la := nq_mono (e := -(w : Int)) hab
 have bv : Rb v := by
  have i1 := le_ab (nq a (-(w : Int))); have i2 := le_ab (-nq a (-(w : Int))); rw [ab_neg] at i2
  have i3 := le_ab (nq b (-(w : Int))); have i4 := le_ab (-nq b (-(w : Int))); rw [ab_neg] at i4
  have i5 := ab_nn (nq a (-(w : Int))); have i6 := ab_nn (nq b (-(w : Int)))
  exact ⟨ab (nq a (-(w : Int))) + ab (nq b (-(w : Int))), by grind, fun m => by have := hv m; constructor <;> grind⟩
 have tr := trig_rr rv bv bV
 have g1 : nq (b - a) (-(w : Int)) ≤ 1 := by
  rw [← nq_pt _ hw]; exact pt_le hg
 rw [nq_sub] at g1
 have lip := trig_lip (x := fun _ => nq a (-(w : Int))) (y := v) (h := fun m => v m - nq a (-(w : Int))) (Rb.const _) bv (fun m => by have := hv m; constructor <;> grind) (fun m => .inl rfl)
 have hp : (0 : Rat) < (twP w : Int) := by exact_mod_cast tw_pos w
 have low : ∀ k m, 4 * n + 2 ≤ m → (k = 3 ∨ k = 4) → nq (rwLo k a w n) (-(w : Int)) ≤ (if k = 3 then sn m (nq a (-(w : Int))) else cs m (nq a (-(w : Int)))) ∧ (if k = 3 then sn m (nq a (-(w : Int))) else cs m (nq a (-(w : Int)))) ≤ nq (rwHi k a w n) (-(w : Int)) := fun k m hm hk => by
  rw [← nq_pt _ hw, ← nq_pt _ hw, ← nq_pt _ hw]
  rcases hk with rfl | rfl
  ·have := sn_in (q := w) (n := n) h0 ha m hm
   rw [if_pos rfl]
   exact ⟨dv_le hp (by grind), le_dvQ hp (by grind)⟩
  ·have := cs_in (q := w) (n := n) h0 ha hn m hm
   rw [if_neg (by omega)]
   exact ⟨dv_le hp (by grind), le_dvQ hp (by grind)⟩
 constructor
 ·refine Hd.rr (V := fun m => sn m (v m)) (fun d hd => ?_) tr.2
  obtain ⟨N, hN⟩ := lip d hd
  refine ⟨N + (4 * n + 2), fun m hm => ?_⟩
  have l := (hN m (by omega)).1
  have s := low 3 m (by omega) (.inl rfl)
  have p := hv m
  rw [if_pos rfl] at s
  rw [nq_sub, nq_add, nq_sub]
  dsimp only at l ⊢
  constructor <;> grind
 ·refine Hd.rr (V := fun m => cs m (v m)) (fun d hd => ?_) tr.1
  obtain ⟨N, hN⟩ := lip d hd
  refine ⟨N + (4 * n + 2), fun m hm => ?_⟩
  have l := (hN m (by omega)).2
  have s := low 4 m (by omega) (.inr rfl)
  have p := hv m
  rw [if_neg (by omega)] at s
  rw [nq_sub, nq_add, nq_sub]
  dsimp only at l ⊢
  constructor <;> grind
def um (m : Rat) : Rat := (m - 1) / (m + 1)
theorem um_in {m : Rat} (h : 1 ≤ m) (h2 : m ≤ 2) : 0 ≤ um m ∧ um m ≤ 1 / 3 ∧ um m * (m + 1) = m - 1 := by
 have e : um m * (m + 1) = m - 1 := by
  unfold um; rw [Rat.div_def, Rat.mul_assoc, Rat.inv_mul_cancel _ (by grind), Rat.mul_one]
 refine ⟨?_, ?_, e⟩
 ·unfold um; exact dv_nonneg (by grind) (by grind)
 ·unfold um; exact dv_le (by grind) (by grind)
theorem e_um {m : Rat} (h : 1 ≤ m) (h2 : m ≤ 2) : Rr (fun n => E n (al n (um m))) (fun _ => m) := fun d hd => by
 obtain ⟨u0, u1, ue⟩ := um_in h h2
 obtain ⟨N, hN⟩ := e_log (u := um m) (by rw [ab_of u0]; grind) (d / 2) (half2 hd)
 refine ⟨N, fun n hn => ?_⟩
 have a := hN n hn
 dsimp only at a ⊢
 generalize E n (al n (um m)) = z at *
 generalize um m = u at *
 -- times (m + 1) / 2
 have k : 0 ≤ (m + 1) / 2 := by grind
 have a1 := Rat.mul_le_mul_of_nonneg_left a.1 k
 have a2 := Rat.mul_le_mul_of_nonneg_left a.2 k
 have e1 : (m + 1) / 2 * ((1 - u) * z) = z := by grind
 have e2 : (m + 1) / 2 * (1 + u) = m := by grind
 have e3 : (m + 1) / 2 * (d / 2) ≤ d := by
  have := Rat.mul_le_mul_of_nonneg_right (show (m + 1) / 2 ≤ 2 by grind) (Rat.le_of_lt (half2 hd)); grind
 constructor <;> grind
theorem al_nn {u : Rat} (h : 0 ≤ u) (n : Nat) : 0 ≤ al n u := S_nn (wt_nn at2_nn h) n
theorem lam_nn (n : Nat) : 0 ≤ lam n := al_nn (by grind) n
theorem log_add {m1 m2 m : Rat} (c : Nat) (h1 : 1 ≤ m1 ∧ m1 ≤ 2) (h2 : 1 ≤ m2 ∧ m2 ≤ 2) (h : 1 ≤ m ∧ m ≤ 2) (e : m1 * m2 = m * 2 ^ c) : Rr (fun n => al n (um m1) + al n (um m2)) (fun n => al n (um m) + c * lam n) := by
 have b : ∀ {x : Rat}, 1 ≤ x ∧ x ≤ 2 → Rb (fun n => al n (um x)) := fun hx => by
  obtain ⟨u0, u1, _⟩ := um_in hx.1 hx.2
  exact al_rb (by rw [ab_of u0]; grind)
 have nn : ∀ {x : Rat}, 1 ≤ x ∧ x ≤ 2 → ∀ n, 0 ≤ al n (um x) := fun hx n => al_nn (um_in hx.1 hx.2).1 n
 refine e_inj (fun n => by have := nn h1 n; have := nn h2 n; grind) (fun n => by have := nn h n; have := Rat.mul_nonneg (nat_nn c) (lam_nn n); grind) ?_
 have a1 := Rr.trans (Rr.symm (e_add (b h1) (b h2))) (Rr.mul (e_um h1.1 h1.2) (e_um h2.1 h2.2) (b h2).E (Rb.const _))
 have a2 := Rr.trans (e_lam (b h) c).2 (Rr.mul (Rr.refl (fun _ => (2 : Rat) ^ c)) (e_um h.1 h.2) (b h).E (Rb.const _))
 refine Rr.trans a1 (Rr.trans (Rr.of_eq fun n => ?_) (Rr.symm a2))
 show m1 * m2 = 2 ^ c * m
 rw [e]; grind
def p2 (k : Int) : Rat := nq 1 k
theorem p2_nat (k : Nat) : p2 (k : Int) = 2 ^ k := by
 refine T4_can ?_
 unfold p2
 rw [nq_T]
 unfold vd T4
 rw [Int.one_mul, show ((k : Int) + 4000).toNat = k + 4000 by omega, ← ipow_add, Rat.intCast_mul, Rat.intCast_pow, Rat.intCast_ofNat]
theorem p2_neg {k : Nat} (hk : k ≤ 4000) : 2 ^ k * p2 (-(k : Int)) = 1 := by
 have a := nq_mul (X := 1) (Y := 1) (e := (k : Int)) (f := -(k : Int)) (by omega) (by omega) (by omega)
 have b := p2_nat k
 have c := p2_nat 0
 unfold p2 at *
 rw [← b, a, show (k : Int) + -(k : Int) = ((0 : Nat) : Int) by omega, Int.one_mul, c, Rat.pow_zero]
theorem p2_pos (k : Int) : 0 < p2 k := nq_pos (by omega)
theorem p2_add {j : Int} (hj : -4000 ≤ j) (hk : -4000 ≤ k) (h : -4000 ≤ j + k) : p2 j * p2 k = p2 (j + k) := by
 unfold p2; rw [nq_mul hj hk h, Int.one_mul]
theorem nq_p2 (X : Int) {e k : Int} (he : -4000 ≤ e) (hk : -4000 ≤ k) (h : -4000 ≤ e + k) : nq X (e + k) = nq X e * p2 k := by
 unfold p2; rw [nq_mul he hk h, Int.mul_one]
theorem Hd.cmul {V : Nat → Rat} (c : Rat) (hc : 0 ≤ c) (h : Hd X Y q V) : ∀ d : Rat, 0 < d → ∃ N, ∀ n, N ≤ n → nq X (-q) * c ≤ c * V n + d ∧ c * V n ≤ nq Y (-q) * c + d := fun d hd => by
 obtain ⟨N, hN⟩ := h (d / (c + 1)) (div_pos hd (by grind))
 refine ⟨N, fun n hn => ?_⟩
 have a := hN n hn
 have b := div_le (show (0 : Rat) < c + 1 by grind) (show d / (c + 1) ≤ d / (c + 1) from Rat.le_refl)
 have p := div_pos hd (show (0 : Rat) < c + 1 by grind)
 generalize d / (c + 1) = i at *
 have a1 := Rat.mul_le_mul_of_nonneg_right a.1 hc
 have a2 := Rat.mul_le_mul_of_nonneg_right a.2 hc
 constructor <;> grind
theorem Hd.shift {V : Nat → Rat} (h : Hd X Y q V) (hq : 0 ≤ q ∧ q ≤ 1500) (hk : -2000 ≤ k ∧ k ≤ 2000) : Hd (flI X k) (-flI (-Y) k) q (fun n => p2 k * V n) := fun d hd => by
 obtain ⟨N, hN⟩ := h.cmul (p2 k) (Rat.le_of_lt (p2_pos k)) d hd
 refine ⟨N, fun n hn => ?_⟩
 have a := hN n hn
 have l := fl_low (X := X) (e := -q + k) (q := q) (by omega) (by omega)
 have u := fl_high (X := Y) (e := -q + k) (q := q) (by omega) (by omega)
 rw [show -q + k + q = k by omega] at l u
 rw [nq_p2 X (e := -q) (k := k) (by omega) (by omega) (by omega)] at l
 rw [nq_p2 Y (e := -q) (k := k) (by omega) (by omega) (by omega)] at u
 dsimp only
 constructor <;> grind
theorem Rr.cmul {s t : Nat → Rat} (c : Rat) (h : Rr s t) (bs : Rb s) : Rr (fun n => c * s n) (fun n => c * t n) := Rr.mul (Rr.refl (fun _ => c)) h bs (Rb.const c)
theorem Rb.mulc {s : Nat → Rat} (c : Rat) (h : Rb s) : Rb (fun n => c * s n) := by
 obtain ⟨B, hB, b⟩ := h
 have hc := ab_nn c
 refine ⟨ab c * B, Rat.mul_nonneg hc hB, fun n => ?_⟩
 have k := b n
 have m : ab (c * s n) ≤ ab c * B := by rw [ab_mul]; exact Rat.mul_le_mul_of_nonneg_left (ab_le.2 ⟨k.2, by grind⟩) hc
 have := ab_le.1 m
 constructor <;> grind
theorem exp_val (x : Rat) {K : Int} (hK : -4000 ≤ K) : Rb (fun n => x - K * lam n) ∧ Rr (fun n => p2 K * E n (x - K * lam n)) (fun n => E n x) := by
 have b : Rb (fun n => x - K * lam n) := by
  have := (Rb.const x).add (lam_rb.mulc (-(K : Rat)))
  have e : (fun n => x + -(K : Rat) * lam n) = (fun n => x - K * lam n) := funext fun n => by grind
  rw [← e]; exact this
 refine ⟨b, ?_⟩
 rcases (show 0 ≤ K ∨ K < 0 by omega) with h | h
 ·obtain ⟨k, rfl⟩ := Int.eq_ofNat_of_zero_le h
  have r := (e_lam b k).2
  refine Rr.trans (Rr.of_eq fun n => ?_) (Rr.trans (Rr.symm r) (Rr.of_eq fun n => ?_))
  ·show p2 (k : Int) * _ = _
   rw [p2_nat]
  ·show E n (x - (((k : Nat) : Int) : Rat) * lam n + (k : Rat) * lam n) = E n x
   rw [show x - (((k : Nat) : Int) : Rat) * lam n + (k : Rat) * lam n = x by
    have : ((((k : Nat) : Int)) : Rat) = (k : Rat) := rfl
    rw [this]; grind]
 ·obtain ⟨k, rfl⟩ : ∃ k : Nat, K = -(k : Int) := ⟨K.natAbs, by omega⟩
  have r := (e_lam (Rb.const x) k).2
  have e : (fun n => E n (x - ((-(k : Int) : Int) : Rat) * lam n)) = (fun n => E n (x + k * lam n)) := funext fun n => by
   rw [Rat.intCast_neg, show x - -(((k : Nat) : Int) : Rat) * lam n = x + (k : Rat) * lam n by
    have : ((((k : Nat) : Int)) : Rat) = (k : Rat) := rfl
    rw [this]; grind]
  have be : Rb (fun n => E n (x + k * lam n)) := by rw [← e]; exact b.E
  have r2 := r.cmul (p2 (-(k : Int))) be
  refine Rr.trans (Rr.of_eq fun n => ?_) (Rr.trans r2 (Rr.of_eq fun n => ?_))
  ·exact congrArg (p2 (-(k : Int)) * ·) (congrFun e n)
  ·show p2 (-(k : Int)) * (2 ^ k * E n x) = E n x
   rw [← Rat.mul_assoc, Rat.mul_comm (p2 _), p2_neg (by omega), Rat.one_mul]
theorem wave_val (x : Rat) (k : Nat) : Rb (fun n => x - k * eta n) ∧
  (k % 4 = 0 → Rr (fun n => sn n (x - k * eta n)) (fun n => sn n x) ∧ Rr (fun n => cs n (x - k * eta n)) (fun n => cs n x)) ∧
  (k % 4 = 1 → Rr (fun n => cs n (x - k * eta n)) (fun n => sn n x) ∧ Rr (fun n => -sn n (x - k * eta n)) (fun n => cs n x)) ∧
  (k % 4 = 2 → Rr (fun n => -sn n (x - k * eta n)) (fun n => sn n x) ∧ Rr (fun n => -cs n (x - k * eta n)) (fun n => cs n x)) ∧
  (k % 4 = 3 → Rr (fun n => -cs n (x - k * eta n)) (fun n => sn n x) ∧ Rr (fun n => sn n (x - k * eta n)) (fun n => cs n x)) := by
 have b : Rb (fun n => x - k * eta n) := by
  have := (Rb.const x).add (eta_rb.mulc (-(k : Rat)))
  have e : (fun n => x + -(k : Rat) * eta n) = (fun n => x - k * eta n) := funext fun n => by grind
  rw [← e]; exact this
 have r := (e_eta b k).2
 have e : (fun n => E n (im (x - k * eta n + k * eta n))) = (fun n => E n (im x)) := funext fun n => by rw [show x - k * eta n + k * eta n = x by grind]
 rw [e] at r
 have st : ∀ a c : Rat, (⟨a, c⟩ : G) * im 1 = ⟨-c, a⟩ := fun a c => G.ext' (by show a * 0 - c * 1 = -c; grind) (by show a * 1 + c * 0 = a; grind)
 have p4 : ∀ j, pw (im 1) (4 * j) = (⟨1, 0⟩ : G) := fun j => by
  induction j with
  | zero => rfl
  | succ j ih =>
   rw [show 4 * (j + 1) = 4 * j + 1 + 1 + 1 + 1 by omega]
   show pw (im 1) (4 * j) * im 1 * im 1 * im 1 * im 1 = _
   rw [ih, st, st, st, st]
   exact G.ext' (by show - -(1 : Rat) = 1; grind) (by show - -(0 : Rat) = 0; grind)
 have fin : ∀ a c : Rat, pw (im 1) k = ⟨a, c⟩ → Rr (fun n => a * sn n (x - k * eta n) + c * cs n (x - k * eta n)) (fun n => sn n x) ∧ Rr (fun n => a * cs n (x - k * eta n) - c * sn n (x - k * eta n)) (fun n => cs n x) := fun a c h => by
  rw [h] at r
  exact ⟨Rr.symm r.im, Rr.symm r.re⟩
 have t : ∀ {s s' u : Nat → Rat}, (∀ n, s n = s' n) → Rr s u → Rr s' u := fun h k => Rr.trans (Rr.symm (Rr.of_eq h)) k
 refine ⟨b, fun h => ?_, fun h => ?_, fun h => ?_, fun h => ?_⟩
 ·obtain ⟨j, rfl⟩ : ∃ j, k = 4 * j := ⟨k / 4, by omega⟩
  have f := fin 1 0 (p4 j)
  exact ⟨t (fun n => by grind) f.1, t (fun n => by grind) f.2⟩
 ·obtain ⟨j, rfl⟩ : ∃ j, k = 4 * j + 1 := ⟨k / 4, by omega⟩
  have f := fin (-0) 1 (by show pw (im 1) (4 * j) * im 1 = _; rw [p4, st])
  exact ⟨t (fun n => by grind) f.1, t (fun n => by grind) f.2⟩
 ·obtain ⟨j, rfl⟩ : ∃ j, k = 4 * j + 1 + 1 := ⟨k / 4, by omega⟩
  have f := fin (-1) (-0) (by show pw (im 1) (4 * j) * im 1 * im 1 = _; rw [p4, st, st])
  exact ⟨t (fun n => by grind) f.1, t (fun n => by grind) f.2⟩
 ·obtain ⟨j, rfl⟩ : ∃ j, k = 4 * j + 1 + 1 + 1 := ⟨k / 4, by omega⟩
  have f := fin (- -0) (-1) (by show pw (im 1) (4 * j) * im 1 * im 1 * im 1 = _; rw [p4, st, st, st])
  exact ⟨t (fun n => by grind) f.1, t (fun n => by grind) f.2⟩
end Go.Proofs.YtjlbngjeekdfcaaGreatDoor.MX
