/-
 the power of e over pairs of rationals: of a sum; of twice the hyperbolic arc; 2 and i.
-/
import Derived.Test.YtjlbngjeekdfcaaGreatDoorPa
namespace Go.Proofs.YtjlbngjeekdfcaaGreatDoor.MX
set_option linter.unusedVariables false
set_option linter.unusedSimpArgs false
class Rg (α : Type) extends Add α, Mul α where
 o : α
 e : α
 sc : Rat → α → α
 ac : ∀ a b : α, a + b = b + a
 aq : ∀ a b c : α, a + b + c = a + (b + c)
 ao : ∀ a : α, a + o = a
 mc : ∀ a b : α, a * b = b * a
 ms : ∀ a b c : α, a * b * c = a * (b * c)
 me : ∀ a : α, a * e = a
 mo : ∀ a : α, a * o = o
 di : ∀ a b c : α, a * (b + c) = a * b + a * c
 sa : ∀ (r s : Rat) (a : α), sc (r + s) a = sc r a + sc s a
 sb : ∀ (r : Rat) (a b : α), sc r (a + b) = sc r a + sc r b
 sm : ∀ (r s : Rat) (a : α), sc (r * s) a = sc r (sc s a)
 sl : ∀ (r : Rat) (a b : α), sc r (a * b) = sc r a * b
 s1 : ∀ a : α, sc 1 a = a
 s0 : ∀ a : α, sc 0 a = o
open Rg
variable {α : Type} [Rg α]
instance : Std.Associative (α := α) (· + ·) := ⟨aq⟩
instance : Std.Commutative (α := α) (· + ·) := ⟨ac⟩
instance : Std.Associative (α := α) (· * ·) := ⟨ms⟩
instance : Std.Commutative (α := α) (· * ·) := ⟨mc⟩
theorem oa (a : α) : o + a = a := by rw [ac, ao]
theorem om (a : α) : o * a = o := by rw [mc, mo]
theorem em (a : α) : e * a = a := by rw [mc, me]
theorem id' (a b c : α) : (a + b) * c = a * c + b * c := by rw [mc, di, mc c a, mc c b]
theorem sr (r : Rat) (a b : α) : sc r (a * b) = a * sc r b := by rw [mc, sl, mc]
theorem so (r : Rat) : sc r (o : α) = o := by rw [← s0 (o : α), ← sm, Rat.mul_zero]
def S (f : Nat → α) : Nat → α
 | 0 => o
 | n + 1 => S f n + f n
theorem S_congr {f g : Nat → α} : ∀ {n : Nat}, (∀ i, i < n → f i = g i) → S f n = S g n
 | 0, _ => rfl
 | n + 1, h => by show S f n + f n = S g n + g n; rw [S_congr fun i hi => h i (by omega), h n (by omega)]
theorem S_add (f g : Nat → α) : ∀ n, S (fun i => f i + g i) n = S f n + S g n
 | 0 => (ao _).symm
 | n + 1 => by show S _ n + (f n + g n) = S f n + f n + (S g n + g n); rw [S_add f g n]; ac_rfl
theorem S_mul (f : Nat → α) (c : α) : ∀ n, S (fun i => f i * c) n = S f n * c
 | 0 => (om _).symm
 | n + 1 => by show S _ n + f n * c = (S f n + f n) * c; rw [S_mul f c n, id']
theorem S_sc (f : Nat → α) (r : Rat) : ∀ n, S (fun i => sc r (f i)) n = sc r (S f n)
 | 0 => (so _).symm
 | n + 1 => by show S _ n + sc r (f n) = sc r (S f n + f n); rw [S_sc f r n, sb]
theorem S_head (f : Nat → α) : ∀ n, S f (n + 1) = f 0 + S (fun i => f (i + 1)) n
 | 0 => by show o + f 0 = f 0 + o; rw [oa, ao]
 | n + 1 => by
  show S f (n + 1) + f (n + 1) = f 0 + (S (fun i => f (i + 1)) n + f (n + 1))
  rw [S_head f n, aq]
def cv (f g : Nat → α) (k : Nat) : α := S (fun i => f i * g (k - i)) (k + 1)
def D (f : Nat → α) (k : Nat) : α := sc ((k : Rat) + 1) (f (k + 1))
theorem cv_D (f g : Nat → α) (k : Nat) : sc ((k : Rat) + 1) (cv f g (k + 1)) = cv (D f) g k + cv f (D g) k := by
 have h1 : S (fun i => sc (i : Rat) (f i * g (k + 1 - i))) (k + 2) = cv (D f) g k := by
  rw [S_head]
  show sc ((0 : Nat) : Rat) _ + _ = _
  rw [show ((0 : Nat) : Rat) = 0 from rfl, s0, oa]
  exact S_congr fun i hi => by
   show sc ((i + 1 : Nat) : Rat) (f (i + 1) * g (k + 1 - (i + 1))) = sc ((i : Rat) + 1) (f (i + 1)) * g (k - i)
   rw [show k + 1 - (i + 1) = k - i by omega, ← sl, show ((i + 1 : Nat) : Rat) = (i : Rat) + 1 by grind]
 have h2 : S (fun i => sc ((k + 1 - i : Nat) : Rat) (f i * g (k + 1 - i))) (k + 2) = cv f (D g) k := by
  show S _ (k + 1) + sc ((k + 1 - (k + 1) : Nat) : Rat) _ = _
  rw [show k + 1 - (k + 1) = 0 by omega, show ((0 : Nat) : Rat) = 0 from rfl, s0, ao]
  exact S_congr fun i hi => by
   show sc ((k + 1 - i : Nat) : Rat) (f i * g (k + 1 - i)) = f i * sc (((k - i : Nat) : Rat) + 1) (g (k - i + 1))
   rw [show k + 1 - i = k - i + 1 by omega, sr, show ((k - i + 1 : Nat) : Rat) = ((k - i : Nat) : Rat) + 1 by grind]
 rw [← h1, ← h2, ← S_add]
 show sc ((k : Rat) + 1) (S (fun i => f i * g (k + 1 - i)) (k + 2)) = _
 rw [← S_sc]
 exact S_congr fun i hi => by
  show sc ((k : Rat) + 1) (f i * g (k + 1 - i)) = sc (i : Rat) (f i * g (k + 1 - i)) + sc ((k + 1 - i : Nat) : Rat) (f i * g (k + 1 - i))
  rw [← sa, show (i : Rat) + ((k + 1 - i : Nat) : Rat) = (k : Rat) + 1 by
   have : (((i + (k + 1 - i) : Nat)) : Rat) = ((k + 1 : Nat) : Rat) := by rw [show i + (k + 1 - i) = k + 1 by omega]
   grind]
theorem tri (f g : Nat → α) : ∀ n, S (cv f g) n = S (fun i => f i * S g (n - i)) n
 | 0 => rfl
 | n + 1 => by
  show S (cv f g) n + cv f g n = S _ n + f n * S g (n + 1 - n)
  rw [tri f g n]
  have h1 : S (fun i => f i * S g (n + 1 - i)) n = S (fun i => f i * S g (n - i) + f i * g (n - i)) n := S_congr fun i hi => by
   rw [show n + 1 - i = n - i + 1 by omega]
   show f i * (S g (n - i) + g (n - i)) = _
   rw [di]
  rw [h1, S_add]
  show _ + (S (fun i => f i * g (n - i)) n + f n * g (n - n)) = _
  rw [show n + 1 - n = 0 + 1 by omega, show n - n = 0 by omega]
  show _ = _ + f n * (o + g 0)
  rw [oa, aq]
def ex (z : α) : Nat → α
 | 0 => e
 | n + 1 => sc (1 / ((n : Rat) + 1)) (ex z n * z)
theorem ex_D (z : α) (k : Nat) : D (ex z) k = ex z k * z := by
 show sc ((k : Rat) + 1) (sc (1 / ((k : Rat) + 1)) (ex z k * z)) = _
 rw [← sm, show ((k : Rat) + 1) * (1 / ((k : Rat) + 1)) = 1 by
  have : (0 : Rat) ≤ (k : Rat) := by exact_mod_cast Nat.zero_le k
  grind, s1]
theorem sc_inj {r : Rat} (hr : r ≠ 0) {a b : α} (h : sc r a = sc r b) : a = b := by
 rw [← s1 a, ← s1 b, show (1 : Rat) = r⁻¹ * r by rw [Rat.inv_mul_cancel r hr], sm, sm, h]
theorem cv_mulr (f g : Nat → α) (c : α) (k : Nat) : cv f (fun i => g i * c) k = cv f g k * c := by
 unfold cv; rw [← S_mul]; exact S_congr fun i _ => (ms _ _ _).symm
theorem cv_mull (f g : Nat → α) (c : α) (k : Nat) : cv (fun i => f i * c) g k = cv f g k * c := by
 unfold cv; rw [← S_mul]; exact S_congr fun i _ => by show f i * c * g (k - i) = f i * g (k - i) * c; ac_rfl
theorem ex_add (z w : α) : ∀ k, cv (ex z) (ex w) k = ex (z + w) k
 | 0 => by show o + e * e = e; rw [oa, me]
 | k + 1 => by
  have hk : ((k : Rat) + 1) ≠ 0 := by
   have : (0 : Rat) ≤ (k : Rat) := by exact_mod_cast Nat.zero_le k
   grind
  refine sc_inj hk ?_
  rw [cv_D, show D (ex z) = fun i => ex z i * z from funext (ex_D z), show D (ex w) = fun i => ex w i * w from funext (ex_D w), cv_mull, cv_mulr, ex_add z w k]
  show _ = D (ex (z + w)) k
  rw [ex_D, di]
instance : Rg Rat where
 o := 0
 e := 1
 sc r x := r * x
 ac := Rat.add_comm
 aq := Rat.add_assoc
 ao := Rat.add_zero
 mc := Rat.mul_comm
 ms := Rat.mul_assoc
 me := Rat.mul_one
 mo := Rat.mul_zero
 di := Rat.mul_add
 sa := Rat.add_mul
 sb := Rat.mul_add
 sm := Rat.mul_assoc
 sl r a b := (Rat.mul_assoc r a b).symm
 s1 := Rat.one_mul
 s0 := Rat.zero_mul
structure G where
 re : Rat
 im : Rat
namespace G
theorem ext' {a b : G} (h : a.re = b.re) (k : a.im = b.im) : a = b := by cases a; cases b; simp_all
instance : Add G := ⟨fun a b => ⟨a.re + b.re, a.im + b.im⟩⟩
instance : Sub G := ⟨fun a b => ⟨a.re - b.re, a.im - b.im⟩⟩
instance : Neg G := ⟨fun a => ⟨-a.re, -a.im⟩⟩
instance : Mul G := ⟨fun a b => ⟨a.re * b.re - a.im * b.im, a.re * b.im + a.im * b.re⟩⟩
theorem add_re (a b : G) : (a + b).re = a.re + b.re := rfl
theorem add_im (a b : G) : (a + b).im = a.im + b.im := rfl
theorem sub_re (a b : G) : (a - b).re = a.re - b.re := rfl
theorem sub_im (a b : G) : (a - b).im = a.im - b.im := rfl
theorem neg_re (a : G) : (-a).re = -a.re := rfl
theorem neg_im (a : G) : (-a).im = -a.im := rfl
theorem mul_re (a b : G) : (a * b).re = a.re * b.re - a.im * b.im := rfl
theorem mul_im (a b : G) : (a * b).im = a.re * b.im + a.im * b.re := rfl
instance : Rg G where
 o := ⟨0, 0⟩
 e := ⟨1, 0⟩
 sc r x := ⟨r * x.re, r * x.im⟩
 ac a b := ext' (by simp only [add_re]; grind) (by simp only [add_im]; grind)
 aq a b c := ext' (by simp only [add_re]; grind) (by simp only [add_im]; grind)
 ao a := ext' (by simp only [add_re]; grind) (by simp only [add_im]; grind)
 mc a b := ext' (by simp only [mul_re]; grind) (by simp only [mul_im]; grind)
 ms a b c := ext' (by simp only [mul_re, mul_im]; grind) (by simp only [mul_re, mul_im]; grind)
 me a := ext' (by simp only [mul_re]; grind) (by simp only [mul_im]; grind)
 mo a := ext' (by simp only [mul_re]; grind) (by simp only [mul_im]; grind)
 di a b c := ext' (by simp only [mul_re, add_re, add_im]; grind) (by simp only [mul_im, add_re, add_im]; grind)
 sa r s a := ext' (by simp only [add_re]; grind) (by simp only [add_im]; grind)
 sb r a b := ext' (by simp only [add_re]; grind) (by simp only [add_im]; grind)
 sm r s a := ext' (by grind) (by grind)
 sl r a b := ext' (by simp only [mul_re]; grind) (by simp only [mul_im]; grind)
 s1 a := ext' (by grind) (by grind)
 s0 a := ext' (by grind) (by grind)
end G
def ab (x : Rat) : Rat := if x < 0 then -x else x
theorem ab_nn (x : Rat) : 0 ≤ ab x := by unfold ab; split <;> grind
theorem ab_add (x y : Rat) : ab (x + y) ≤ ab x + ab y := by unfold ab; grind
theorem ab_neg (x : Rat) : ab (-x) = ab x := by unfold ab; grind
theorem ab_mul (x y : Rat) : ab (x * y) = ab x * ab y := by
 unfold ab
 rcases (show x < 0 ∨ 0 ≤ x by grind) with h | h <;> rcases (show y < 0 ∨ 0 ≤ y by grind) with k | k
 ·have := Rat.mul_pos (show 0 < -x by grind) (show 0 < -y by grind)
  grind
 ·have := Rat.mul_nonneg (show 0 ≤ -x by grind) k
  rw [if_pos h, if_neg (show ¬ y < 0 by grind)]
  split <;> grind
 ·have := Rat.mul_nonneg h (show 0 ≤ -y by grind)
  rw [if_pos k, if_neg (show ¬ x < 0 by grind)]
  split <;> grind
 ·have := Rat.mul_nonneg h k
  grind
theorem ab_of {x : Rat} (h : 0 ≤ x) : ab x = x := by unfold ab; grind
theorem le_ab (x : Rat) : x ≤ ab x := by unfold ab; grind
def nm (z : G) : Rat := ab z.re + ab z.im
theorem nm_nn (z : G) : 0 ≤ nm z := by have := ab_nn z.re; have := ab_nn z.im; unfold nm; grind
theorem nm_add (z w : G) : nm (z + w) ≤ nm z + nm w := by
 have := ab_add z.re w.re; have := ab_add z.im w.im
 unfold nm; rw [G.add_re, G.add_im]; grind
theorem nm_neg (z : G) : nm (-z) = nm z := by unfold nm; rw [G.neg_re, G.neg_im, ab_neg, ab_neg]
theorem nm_sub (z w : G) : nm (z - w) ≤ nm z + nm w := by
 have := nm_add z (-w)
 rw [nm_neg] at this
 rw [show z - w = z + -w from G.ext' (by rw [G.sub_re, G.add_re, G.neg_re]; grind) (by rw [G.sub_im, G.add_im, G.neg_im]; grind)]; exact this
theorem nm_mul (z w : G) : nm (z * w) ≤ nm z * nm w := by
 have h1 := ab_add (z.re * w.re) (-(z.im * w.im))
 have h2 := ab_add (z.re * w.im) (z.im * w.re)
 rw [ab_neg, ab_mul, ab_mul] at h1
 rw [ab_mul, ab_mul] at h2
 unfold nm; rw [G.mul_re, G.mul_im]
 rw [Rat.sub_eq_add_neg]
 grind
theorem nm_sc (r : Rat) (z : G) : nm (sc r z) = ab r * nm z := by
 show ab (r * z.re) + ab (r * z.im) = _
 rw [ab_mul, ab_mul]; unfold nm; grind
theorem S_nm (f : Nat → G) (g : Nat → Rat) : ∀ n, (∀ i, i < n → nm (f i) ≤ g i) → nm (S f n) ≤ S g n
 | 0, _ => by show ab 0 + ab 0 ≤ (0 : Rat); unfold ab; grind
 | n + 1, h => by
  have h1 := S_nm f g n fun i hi => h i (by omega)
  have h2 := h n (by omega)
  have h3 := nm_add (S f n) (f n)
  show nm (S f n + f n) ≤ S g n + g n
  grind
theorem S_le {f g : Nat → Rat} : ∀ {n}, (∀ i, i < n → f i ≤ g i) → S f n ≤ S g n
 | 0, _ => Rat.le_refl
 | n + 1, h => by
  have h1 := S_le (n := n) fun i hi => h i (by omega)
  have h2 := h n (by omega)
  show S f n + f n ≤ S g n + g n
  grind
theorem S_nn {f : Nat → Rat} (h : ∀ i, 0 ≤ f i) : ∀ n, 0 ≤ S f n
 | 0 => Rat.le_refl
 | n + 1 => by have h1 := S_nn h n; have h2 := h n; show 0 ≤ S f n + f n; grind
theorem S_mono {f : Nat → Rat} (h : ∀ i, 0 ≤ f i) {n m : Nat} (k : n ≤ m) : S f n ≤ S f m := by
 induction m with
 | zero => rw [show n = 0 by omega]; exact Rat.le_refl
 | succ m ih =>
  rcases Nat.lt_or_ge m n with h1 | h1
  ·rw [show n = m + 1 by omega]; exact Rat.le_refl
  ·have := ih h1; have := h m; show S f n ≤ S f m + f m; grind
theorem mul_le2 {a b c d : Rat} (ha : 0 ≤ a) (hd : 0 ≤ d) (h : a ≤ b) (k : c ≤ d) : a * c ≤ b * d := by
 have h1 := Rat.mul_le_mul_of_nonneg_left k ha
 have h2 := Rat.mul_le_mul_of_nonneg_right h hd
 grind
theorem prod_near {f g : Nat → G} {u v : Nat → Rat} (hf : ∀ i, nm (f i) ≤ u i) (hg : ∀ i, nm (g i) ≤ v i) (n : Nat) :
  nm (S f n * S g n - S (cv f g) n) ≤ S u n * S v n - S (cv u v) n := by
 have hu : ∀ i, 0 ≤ u i := fun i => Rat.le_trans (nm_nn _) (hf i)
 have hv : ∀ i, 0 ≤ v i := fun i => Rat.le_trans (nm_nn _) (hg i)
 rw [tri, tri, ← S_mul, ← S_mul]
 have h1 : ∀ m, S (fun i => f i * S g n) m - S (fun i => f i * S g (n - i)) m = S (fun i => f i * (S g n - S g (n - i))) m := by
  intro m
  induction m with
  | zero => exact G.ext' (by show (0 : Rat) - 0 = 0; grind) (by show (0 : Rat) - 0 = 0; grind)
  | succ m ih =>
   show S _ m + f m * S g n - (S _ m + f m * S g (n - m)) = S _ m + f m * (S g n - S g (n - m))
   rw [← ih]
   exact G.ext' (by simp only [G.sub_re, G.add_re, G.mul_re, G.sub_im]; grind) (by simp only [G.sub_re, G.add_im, G.mul_im, G.sub_im]; grind)
 have h2 : ∀ m, S (fun i => u i * S v n) m - S (fun i => u i * S v (n - i)) m = S (fun i => u i * (S v n - S v (n - i))) m := by
  intro m
  induction m with
  | zero => show (0 : Rat) - 0 = 0; grind
  | succ m ih =>
   show S _ m + u m * S v n - (S _ m + u m * S v (n - m)) = S _ m + u m * (S v n - S v (n - m))
   rw [← ih]; grind
 have h3 : ∀ i, nm (S g n - S g (n - i)) ≤ S v n - S v (n - i) := by
  intro i
  have : ∀ d k, nm (S g (k + d) - S g k) ≤ S v (k + d) - S v k := by
   intro d k
   induction d with
   | zero =>
    show ab ((S g k).re - (S g k).re) + ab ((S g k).im - (S g k).im) ≤ S v k - S v k
    unfold ab; grind
   | succ d ih =>
    have a1 := nm_add (S g (k + d) - S g k) (g (k + d))
    have a2 := hg (k + d)
    rw [show S g (k + d) - S g k + g (k + d) = S g (k + (d + 1)) - S g k from G.ext' (by show _ - _ + _ = _ + _ - _; grind) (by show _ - _ + _ = _ + _ - _; grind)] at a1
    show _ ≤ S v (k + d) + v (k + d) - S v k
    grind
  have h4 := this (n - (n - i)) (n - i)
  rw [show n - i + (n - (n - i)) = n by omega] at h4
  exact h4
 show nm (S (fun i => f i * S g n) n - S (fun i => f i * S g (n - i)) n) ≤ S (fun i => u i * S v n) n - S (fun i => u i * S v (n - i)) n
 rw [h1, h2]
 exact S_nm _ _ n fun i _ => Rat.le_trans (nm_mul _ _) (mul_le2 (nm_nn _) (Rat.le_trans (nm_nn _) (h3 i)) (hf i) (h3 i))
theorem prod_le {u v : Nat → Rat} (hu : ∀ i, 0 ≤ u i) (hv : ∀ i, 0 ≤ v i) {n m : Nat} : S u n * S v m ≤ S (cv u v) (n + m) := by
 rw [tri, ← S_mul]
 refine Rat.le_trans (S_le (g := fun i => u i * S v (n + m - i)) fun i hi => ?_) (S_mono (fun i => Rat.mul_nonneg (hu i) (S_nn hv _)) (by omega))
 exact Rat.mul_le_mul_of_nonneg_left (S_mono hv (by omega)) (hu i)
theorem arch (x : Rat) : ∃ n : Nat, x ≤ (n : Rat) := by
 refine ⟨x.ceil.toNat, Rat.le_trans Rat.le_ceil ?_⟩
 have h : x.ceil ≤ ((x.ceil.toNat : Nat) : Int) := by omega
 have := Rat.intCast_le_intCast.2 h
 exact_mod_cast this
theorem nat_nn (k : Nat) : (0 : Rat) ≤ (k : Rat) := by exact_mod_cast Nat.zero_le k
theorem two_pow_ge (k : Nat) : ((k : Rat) + 1) ≤ 2 ^ k := by
 induction k with
 | zero => grind
 | succ k ih => rw [Rat.pow_succ]; have := nat_nn k; grind
def E (n : Nat) (z : α) : α := S (ex z) n
theorem exR_succ (r : Rat) (k : Nat) : ex r (k + 1) = 1 / ((k : Rat) + 1) * (ex r k * r) := rfl
theorem inv_nn (k : Nat) : (0 : Rat) ≤ 1 / ((k : Rat) + 1) := by
 have := nat_nn k
 have := Rat.inv_pos.2 (show 0 < (k : Rat) + 1 by grind)
 grind
theorem ex_nn {r : Rat} (h : 0 ≤ r) : ∀ k, 0 ≤ ex r k
 | 0 => by show (0 : Rat) ≤ 1; grind
 | k + 1 => by rw [exR_succ]; exact Rat.mul_nonneg (inv_nn k) (Rat.mul_nonneg (ex_nn h k) h)
theorem ex_mono {r s : Rat} (h : 0 ≤ r) (k : r ≤ s) : ∀ n, ex r n ≤ ex s n
 | 0 => Rat.le_refl
 | n + 1 => by
  rw [exR_succ, exR_succ]
  exact Rat.mul_le_mul_of_nonneg_left (mul_le2 (ex_nn h n) (Rat.le_trans h k) (ex_mono h k n) k) (inv_nn n)
theorem ex_nm (z : G) {r : Rat} (h : nm z ≤ r) : ∀ k, nm (ex z k) ≤ ex r k
 | 0 => by show ab 1 + ab 0 ≤ (1 : Rat); unfold ab; grind
 | k + 1 => by
  have hr : 0 ≤ r := Rat.le_trans (nm_nn z) h
  rw [exR_succ]
  show nm (sc (1 / ((k : Rat) + 1)) (ex z k * z)) ≤ _
  rw [nm_sc, ab_of (inv_nn k)]
  exact Rat.mul_le_mul_of_nonneg_left (Rat.le_trans (nm_mul _ _) (mul_le2 (nm_nn _) hr (ex_nm z h k) h)) (inv_nn k)
theorem ex_half {R : Rat} (hR : 0 ≤ R) {n : Nat} (h : 2 * R ≤ (n : Rat) + 1) : ex R (n + 1) ≤ ex R n / 2 := by
 have hn := nat_nn n
 have hp : 0 < (n : Rat) + 1 := by grind
 have e1 : ((n : Rat) + 1) * (1 / ((n : Rat) + 1)) = 1 := by grind
 have k := ex_nn hR n
 have i := inv_nn n
 rw [exR_succ]
 generalize (1 : Rat) / ((n : Rat) + 1) = v at *
 have h2 : v * (2 * R) ≤ v * ((n : Rat) + 1) := Rat.mul_le_mul_of_nonneg_left h i
 have h3 : v * R ≤ 1 / 2 := by grind
 have h4 := Rat.mul_le_mul_of_nonneg_left h3 k
 grind
theorem ex_small {R : Rat} (hR : 0 ≤ R) {N : Nat} (h : 2 * R ≤ (N : Rat) + 1) : ∀ k, 2 ^ k * ex R (N + k) ≤ ex R N
 | 0 => by rw [Rat.pow_zero]; show 1 * ex R N ≤ _; grind
 | k + 1 => by
  have h1 := ex_small hR h k
  have h2 : ex R (N + k + 1) ≤ ex R (N + k) / 2 := ex_half hR (by
   have : ((N + k : Nat) : Rat) = N + k := by grind
   have := nat_nn k
   grind)
  have h3 : (0 : Rat) ≤ 2 ^ k := Rat.le_trans (by have := nat_nn k; grind) (two_pow_ge k)
  have h4 := Rat.mul_le_mul_of_nonneg_left h2 h3
  rw [Rat.pow_succ]
  show 2 ^ k * 2 * ex R (N + k + 1) ≤ _
  grind
theorem E_tail {R : Rat} (hR : 0 ≤ R) {n : Nat} (h : 2 * R ≤ (n : Rat) + 1) : ∀ k, E (n + k) R + 2 * ex R (n + k) ≤ E n R + 2 * ex R n
 | 0 => Rat.le_refl
 | k + 1 => by
  have h1 := E_tail hR h k
  have h2 : ex R (n + k + 1) ≤ ex R (n + k) / 2 := ex_half hR (by
   have : ((n + k : Nat) : Rat) = n + k := by grind
   have := nat_nn k
   grind)
  show E (n + k) R + ex R (n + k) + 2 * ex R (n + k + 1) ≤ _
  grind
theorem E_rest {R : Rat} (hR : 0 ≤ R) {e : Rat} (he : 0 < e) : ∃ N, ∀ n, N ≤ n → ∀ m, n ≤ m → E m R - E n R ≤ e := by
 obtain ⟨N, hN⟩ := arch (2 * R)
 obtain ⟨K, hK⟩ := arch (2 * ex R N / e)
 have hb := ex_nn hR N
 refine ⟨N + K, fun n hn m hm => ?_⟩
 obtain ⟨k, rfl⟩ : ∃ k, n = N + k := ⟨n - N, by omega⟩
 obtain ⟨j, rfl⟩ : ∃ j, m = N + k + j := ⟨m - (N + k), by omega⟩
 have hNk : 2 * R ≤ ((N + k : Nat) : Rat) + 1 := by
  have : ((N + k : Nat) : Rat) = N + k := by grind
  have := nat_nn k
  grind
 have h1 := E_tail hR hNk j
 have h2 := ex_small hR (N := N) (by grind) k
 have h3 := ex_nn hR (N + k + j)
 have h4 := two_pow_ge k
 have h5 : (K : Rat) ≤ (k : Rat) := Rat.natCast_le_natCast.2 (by omega)
 have h6 := ex_nn hR (N + k)
 -- 2 ex (N + k) ≤ e
 have e0 : e * e⁻¹ = 1 := Rat.mul_inv_cancel _ (by grind)
 have h7 : 2 * ex R N ≤ e * 2 ^ k := by
  have a1 : 2 * ex R N / e ≤ 2 ^ k := by grind
  have a2 := Rat.mul_le_mul_of_nonneg_left a1 (show 0 ≤ e by grind)
  rw [Rat.div_def] at a2
  have a3 : e * (2 * ex R N * e⁻¹) = 2 * ex R N * (e * e⁻¹) := by ac_rfl
  rw [a3, e0, Rat.mul_one] at a2
  exact a2
 have h8 : 2 ^ k * (2 * ex R (N + k)) ≤ 2 ^ k * e := by grind
 have h9 : 2 * ex R (N + k) ≤ e := by
  rcases (show 2 * ex R (N + k) ≤ e ∨ e < 2 * ex R (N + k) by grind) with a | a
  ·exact a
  ·have b := Rat.mul_lt_mul_of_pos_left a (show (0 : Rat) < 2 ^ k by have := nat_nn k; grind)
   grind
 grind
theorem E_add {R : Rat} (hR : 0 ≤ R) {e : Rat} (he : 0 < e) : ∃ N, ∀ n, N ≤ n → ∀ z w : G, nm z + nm w ≤ R → nm (E n z * E n w - E n (z + w)) ≤ e := by
 obtain ⟨N, hN⟩ := E_rest hR he
 refine ⟨N, fun n hn z w h => ?_⟩
 have h1 := prod_near (ex_nm z Rat.le_refl) (ex_nm w Rat.le_refl) n
 rw [show S (cv (ex z) (ex w)) n = E n (z + w) from S_congr fun i _ => ex_add z w i, show S (cv (ex (nm z)) (ex (nm w))) n = E n (nm z + nm w) from S_congr fun i _ => ex_add _ _ i] at h1
 have h2 := prod_le (ex_nn (nm_nn z)) (ex_nn (nm_nn w)) (n := n) (m := n)
 rw [show S (cv (ex (nm z)) (ex (nm w))) (n + n) = E (n + n) (nm z + nm w) from S_congr fun i _ => ex_add _ _ i] at h2
 have hz := nm_nn z; have hw := nm_nn w
 -- the rest grows with the size
 have h3 : ∀ k, E (n + k) (nm z + nm w) - E n (nm z + nm w) ≤ E (n + k) R - E n R := by
  intro k
  induction k with
  | zero => show E n _ - E n _ ≤ E n R - E n R; grind
  | succ k ih =>
   have := ex_mono (show 0 ≤ nm z + nm w by grind) h (n + k)
   show E (n + k) _ + ex _ (n + k) - _ ≤ E (n + k) R + ex R (n + k) - _
   grind
 have h4 := h3 n
 have h5 := hN n hn (n + n) (by omega)
 show nm (S (ex z) n * S (ex w) n - _) ≤ e
 grind
def sh (f : Nat → α) : Nat → α
 | 0 => o
 | 1 => o
 | k + 2 => f k
theorem cv_addl (f g h : Nat → α) (k : Nat) : cv (fun i => f i + g i) h k = cv f h k + cv g h k := by
 unfold cv; rw [← S_add]; exact S_congr fun i _ => id' _ _ _
theorem cv_addr (f g h : Nat → α) (k : Nat) : cv h (fun i => f i + g i) k = cv h f k + cv h g k := by
 unfold cv; rw [← S_add]; exact S_congr fun i _ => di _ _ _
theorem cv_scl (r : Rat) (f h : Nat → α) (k : Nat) : cv (fun i => sc r (f i)) h k = sc r (cv f h k) := by
 unfold cv; rw [← S_sc]; exact S_congr fun i _ => (sl _ _ _).symm
theorem cv_scr (r : Rat) (f h : Nat → α) (k : Nat) : cv h (fun i => sc r (f i)) k = sc r (cv h f k) := by
 unfold cv; rw [← S_sc]; exact S_congr fun i _ => (sr _ _ _).symm
theorem cv_shl (f h : Nat → α) : ∀ k, cv (sh f) h k = sh (cv f h) k
 | 0 => by show o + o * _ = o; rw [oa, om]
 | 1 => by show o + o * _ + o * _ = o; rw [om, om, ao, ao]
 | k + 2 => by
  unfold cv
  rw [S_head, S_head]
  show o * _ + (o * _ + _) = S (fun i => f i * h (k - i)) (k + 1)
  rw [om, om, oa, oa]
  exact S_congr fun i _ => by show f i * h (k + 2 - (i + 1 + 1)) = _; rw [show k + 2 - (i + 1 + 1) = k - i by omega]
theorem cv_shr (f h : Nat → α) : ∀ k, cv h (sh f) k = sh (cv h f) k
 | 0 => by show o + _ * o = o; rw [oa, mo]
 | 1 => by show o + _ * o + _ * o = o; rw [mo, mo, ao, ao]
 | k + 2 => by
  show S (fun i => h i * sh f (k + 2 - i)) (k + 1) + h (k + 1) * sh f (k + 2 - (k + 1)) + h (k + 2) * sh f (k + 2 - (k + 2)) = S (fun i => h i * f (k - i)) (k + 1)
  rw [show k + 2 - (k + 1) = 1 by omega, show k + 2 - (k + 2) = 0 by omega]
  show _ + _ * o + _ * o = _
  rw [mo, mo, ao, ao]
  exact S_congr fun i _ => by rw [show k + 2 - i = k - i + 2 by omega]; rfl
def dl : Nat → Rat
 | 0 => 1
 | _ + 1 => 0
theorem cv_dl (f : Nat → Rat) (k : Nat) : cv f dl k = f k := by
 show S (fun i => f i * dl (k - i)) k + f k * dl (k - k) = f k
 rw [show k - k = 0 by omega, S_congr (g := fun _ => (0 : Rat)) fun i hi => by
  rw [show k - i = k - i - 1 + 1 by omega]; exact Rat.mul_zero _]
 have : ∀ n, S (fun _ => (0 : Rat)) n = 0 := fun n => by
  induction n with
  | zero => rfl
  | succ n ih => show S _ n + (0 : Rat) = 0; rw [ih]; exact Rat.zero_add 0
 rw [this]
 show 0 + f k * 1 = f k
 grind
theorem dl_cv (f : Nat → Rat) (k : Nat) : cv dl f k = f k := by
 unfold cv
 rw [S_head, S_congr (g := fun _ => (0 : Rat)) fun i hi => by show 0 * _ = (0 : Rat); exact Rat.zero_mul _]
 have : ∀ n, S (fun _ => (0 : Rat)) n = 0 := fun n => by
  induction n with
  | zero => rfl
  | succ n ih => show S _ n + (0 : Rat) = 0; rw [ih]; exact Rat.zero_add 0
 rw [this]
 show 1 * f k + 0 = f k
 grind
def at2 (k : Nat) : Rat := if k % 2 = 1 then 2 / (k : Rat) else 0
theorem at2_D (k : Nat) : D at2 k = if k % 2 = 0 then 2 else 0 := by
 show ((k : Rat) + 1) * at2 (k + 1) = _
 unfold at2
 rcases Nat.mod_two_eq_zero_or_one k with h | h
 ·rw [if_pos (show (k + 1) % 2 = 1 by omega), if_pos h]
  have := nat_nn k
  have e : ((k + 1 : Nat) : Rat) = k + 1 := by grind
  rw [e]; grind
 ·rw [if_neg (show ¬ (k + 1) % 2 = 1 by omega), if_neg (show ¬ k % 2 = 0 by omega), Rat.mul_zero]
def el : Nat → Nat → Rat
 | 0 => dl
 | j + 1 => fun k => 1 / ((j : Rat) + 1) * cv (el j) at2 k
theorem el_cv (j k : Nat) : cv (el j) at2 k = ((j : Rat) + 1) * el (j + 1) k := by
 show _ = ((j : Rat) + 1) * (1 / ((j : Rat) + 1) * cv (el j) at2 k)
 have := nat_nn j
 have e : ((j : Rat) + 1) * (1 / ((j : Rat) + 1)) = 1 := by grind
 rw [← Rat.mul_assoc, e, Rat.one_mul]
theorem at2_rec (k : Nat) : D at2 k = sh (D at2) k + 2 * dl k := by
 rcases k with _ | _ | k
 ·rw [at2_D]; show _ = (0 : Rat) + 2 * 1; grind
 ·rw [at2_D]; show _ = (0 : Rat) + 2 * 0; grind
 ·show _ = D at2 k + 2 * 0
  rw [at2_D, at2_D, show (k + 1 + 1) % 2 = k % 2 by omega]; grind
theorem el_rec (j : Nat) : ∀ k, D (el (j + 1)) k = sh (D (el (j + 1))) k + 2 * el j k := by
 induction j with
 | zero =>
  have e : el 1 = at2 := funext fun k => by
   show 1 / (((0 : Nat) : Rat) + 1) * cv dl at2 k = _
   rw [dl_cv]; grind
  rw [e]; exact at2_rec
 | succ j ih =>
  intro k
  have hj := nat_nn j
  have d2 : ∀ i, D (cv (el (j + 1)) at2) i = ((j : Rat) + 2) * D (el (j + 2)) i := fun i => by
   show ((i : Rat) + 1) * cv (el (j + 1)) at2 (i + 1) = ((j : Rat) + 2) * (((i : Rat) + 1) * el (j + 2) (i + 1))
   rw [el_cv, show ((j + 1 : Nat) : Rat) = j + 1 by grind]; grind
  have c1 : ∀ i, cv (D (el (j + 1))) at2 i = sh (cv (D (el (j + 1))) at2) i + 2 * cv (el j) at2 i := fun i => by
   have : cv (D (el (j + 1))) at2 i = cv (fun i => sh (D (el (j + 1))) i + 2 * el j i) at2 i := congrArg (fun f => cv f at2 i) (funext ih)
   rw [this, cv_addl, cv_shl]
   exact congrArg _ (cv_scl 2 _ _ _)
  have c2 : ∀ i, cv (el (j + 1)) (D at2) i = sh (cv (el (j + 1)) (D at2)) i + 2 * el (j + 1) i := fun i => by
   have : cv (el (j + 1)) (D at2) i = cv (el (j + 1)) (fun i => sh (D at2) i + 2 * dl i) i := congrArg (fun f => cv (el (j + 1)) f i) (funext at2_rec)
   rw [this, cv_addr, cv_shr]
   refine congrArg _ ((cv_scr 2 _ _ _).trans ?_)
   rw [cv_dl]; rfl
  have sd : ∀ i, sh (D (cv (el (j + 1)) at2)) i = sh (cv (D (el (j + 1))) at2) i + sh (cv (el (j + 1)) (D at2)) i := fun i => by
   rcases i with _ | _ | i
   ·show (0 : Rat) = 0 + 0; exact (Rat.zero_add 0).symm
   ·show (0 : Rat) = 0 + 0; exact (Rat.zero_add 0).symm
   ·exact cv_D _ _ i
  have sd2 : ∀ i, sh (D (cv (el (j + 1)) at2)) i = ((j : Rat) + 2) * sh (D (el (j + 2))) i := fun i => by
   rcases i with _ | _ | i
   ·show (0 : Rat) = _ * 0; grind
   ·show (0 : Rat) = _ * 0; grind
   ·exact d2 i
  have h1 : D (cv (el (j + 1)) at2) k = cv (D (el (j + 1))) at2 k + cv (el (j + 1)) (D at2) k := cv_D _ _ k
  rw [c1, c2, d2, el_cv] at h1
  have h2 := sd k
  rw [sd2] at h2
  have h3 : ((j : Rat) + 2) * D (el (j + 1 + 1)) k = ((j : Rat) + 2) * (sh (D (el (j + 1 + 1))) k + 2 * el (j + 1) k) := by grind
  have hp : ((j : Rat) + 2) ≠ 0 := by grind
  have e : ((j : Rat) + 2)⁻¹ * ((j : Rat) + 2) = 1 := Rat.inv_mul_cancel _ hp
  have h4 := congrArg (((j : Rat) + 2)⁻¹ * ·) h3
  simp only [← Rat.mul_assoc, e, Rat.one_mul] at h4
  exact h4
theorem at2_nn (k : Nat) : 0 ≤ at2 k := by
 unfold at2
 split
 ·have := nat_nn k
  rcases (show (k : Rat) = 0 ∨ 0 < (k : Rat) by grind) with h | h
  ·rw [h, Rat.div_def, Rat.inv_zero]; grind
  ·rw [Rat.div_def]; have := Rat.inv_pos.2 h; grind
 ·exact Rat.le_refl
theorem cv_nn {f g : Nat → Rat} (h : ∀ i, 0 ≤ f i) (k : ∀ i, 0 ≤ g i) (n : Nat) : 0 ≤ cv f g n := by
 unfold cv
 exact S_nn (f := fun i => f i * g (n - i)) (fun i => Rat.mul_nonneg (h i) (k _)) _
theorem el_nn : ∀ j k, 0 ≤ el j k
 | 0, 0 => by show (0 : Rat) ≤ 1; grind
 | 0, _ + 1 => Rat.le_refl
 | j + 1, k => Rat.mul_nonneg (inv_nn j) (cv_nn (el_nn j) at2_nn k)
theorem el_low : ∀ j k, k < j → el j k = 0
 | 0, _, h => by omega
 | j + 1, k, h => by
  show 1 / ((j : Rat) + 1) * cv (el j) at2 k = 0
  have : cv (el j) at2 k = S (fun _ => (0 : Rat)) (k + 1) := S_congr fun i hi => by
   rcases Nat.lt_or_ge i j with h1 | h1
   ·rw [el_low j i h1, Rat.zero_mul]
   ·have : k - i = 0 := by omega
    rw [this, show at2 0 = 0 from rfl, Rat.mul_zero]
  rw [this]
  have z : ∀ n, S (fun _ => (0 : Rat)) n = 0 := fun n => by
   induction n with
   | zero => rfl
   | succ n ih => show S _ n + (0 : Rat) = 0; rw [ih]; exact Rat.zero_add 0
  rw [z, Rat.mul_zero]
def ph (n k : Nat) : Rat := S (fun j => el j k) n
def Fk (k : Nat) : Rat := if k = 0 then 1 else 2
theorem el_s (j k : Nat) : ((k : Rat) + 1) * el (j + 1) (k + 1) = (if k = 0 then 0 else ((k : Rat) - 1) * el (j + 1) (k - 1)) + 2 * el j k := by
 have h := el_rec j k
 have e : sh (D (el (j + 1))) k = if k = 0 then 0 else ((k : Rat) - 1) * el (j + 1) (k - 1) := by
  rcases k with _ | _ | k
  ·rfl
  ·show (0 : Rat) = if 0 + 1 = 0 then 0 else (((0 + 1 : Nat) : Rat) - 1) * _
   rw [if_neg (by omega), show (((0 + 1 : Nat) : Rat) - 1) = 0 by grind, Rat.zero_mul]
  ·show ((k : Rat) + 1) * el (j + 1) (k + 1) = if k + 1 + 1 = 0 then 0 else (((k + 1 + 1 : Nat) : Rat) - 1) * el (j + 1) (k + 1)
   rw [if_neg (by omega), show (((k + 1 + 1 : Nat) : Rat) - 1) = k + 1 by grind]
 rw [e] at h
 exact h
theorem ph_s (n k : Nat) : ((k : Rat) + 1) * ph (n + 1) (k + 1) = (if k = 0 then 0 else ((k : Rat) - 1) * ph (n + 1) (k - 1)) + 2 * ph n k + (if k = 1 then 0 else 0) := by
 have hd : ∀ m i, ph (m + 1) i = dl i + S (fun j => el (j + 1) i) m := fun m i => S_head (fun j => el j i) m
 have h : ∀ m, ((k : Rat) + 1) * S (fun j => el (j + 1) (k + 1)) m = (if k = 0 then 0 else ((k : Rat) - 1) * S (fun j => el (j + 1) (k - 1)) m) + 2 * S (fun j => el j k) m := by
  intro m
  induction m with
  | zero => show _ * (0 : Rat) = (if k = 0 then 0 else _ * (0 : Rat)) + 2 * (0 : Rat); split <;> grind
  | succ m ih =>
   have := el_s m k
   show ((k : Rat) + 1) * (S _ m + el (m + 1) (k + 1)) = (if k = 0 then 0 else ((k : Rat) - 1) * (S _ m + el (m + 1) (k - 1))) + 2 * (S _ m + el m k)
   split at ih <;> split at this <;> split <;> grind
 have h2 := h n
 rw [hd n (k + 1), show dl (k + 1) = 0 from rfl, Rat.zero_add]
 show _ = _ + 2 * S (fun j => el j k) n + _
 rcases k with _ | _ | k
 ·grind
 ·rw [if_neg (by omega)] at h2 ⊢
  rw [show (((0 + 1 : Nat) : Rat) - 1) = 0 by grind] at h2 ⊢
  grind
 ·rw [if_neg (by omega)] at h2 ⊢
  rw [hd n (k + 1 + 1 - 1), show dl (k + 1 + 1 - 1) = 0 from rfl, Rat.zero_add]
  grind
theorem ph_is : ∀ k n, k < n → ph n k = Fk k := by
 intro k
 induction k using Nat.strongRecOn with
 | _ k ih =>
  intro n hn
  obtain ⟨n, rfl⟩ : ∃ m, n = m + 1 := ⟨n - 1, by omega⟩
  rcases k with _ | k
  ·show S (fun j => el j 0) (n + 1) = 1
   rw [S_head]
   have : S (fun j => el (j + 1) 0) n = S (fun _ => (0 : Rat)) n := S_congr fun j _ => el_low (j + 1) 0 (by omega)
   rw [this]
   have z : ∀ n, S (fun _ => (0 : Rat)) n = 0 := fun n => by
    induction n with
    | zero => rfl
    | succ n ih => show S _ n + (0 : Rat) = 0; rw [ih]; exact Rat.zero_add 0
   rw [z]; show (1 : Rat) + 0 = 1; grind
  ·have h := ph_s n k
   have hk := nat_nn k
   rw [ih k (by omega) n (by omega)] at h
   have hk1 : ((k : Rat) + 1) ≠ 0 := by grind
   have fin : ((k : Rat) + 1) * ph (n + 1) (k + 1) = ((k : Rat) + 1) * 2 := by
    rcases k with _ | k
    ·rw [h]; show (if (0 : Nat) = 0 then (0 : Rat) else _) + 2 * 1 + _ = _; grind
    ·rw [ih (k + 1 - 1) (by omega) (n + 1) (by omega)] at h
     rw [h]
     show (if k + 1 = 0 then (0 : Rat) else _) + 2 * 2 + _ = _
     rw [if_neg (by omega)]
     rcases k with _ | k
     ·show (((0 + 1 : Nat) : Rat) - 1) * 1 + 2 * 2 + _ = _; grind
     ·show (((k + 1 + 1 : Nat) : Rat) - 1) * 2 + 2 * 2 + _ = _; grind
   have e : ((k : Rat) + 1)⁻¹ * ((k : Rat) + 1) = 1 := Rat.inv_mul_cancel _ hk1
   have h4 := congrArg (((k : Rat) + 1)⁻¹ * ·) fin
   simp only [← Rat.mul_assoc, e, Rat.one_mul] at h4
   exact h4
theorem ph_le (n k : Nat) : ph n k ≤ Fk k := by
 rcases Nat.lt_or_ge k n with h | h
 ·rw [ph_is k n h]; exact Rat.le_refl
 ·rw [← ph_is k (k + 1) (by omega)]
  exact S_mono (f := fun j => el j k) (fun j => el_nn j k) (by omega)
def pw (z : α) : Nat → α
 | 0 => e
 | k + 1 => pw z k * z
theorem pw_add (z : α) (i : Nat) : ∀ j, pw z i * pw z j = pw z (i + j)
 | 0 => me _
 | j + 1 => by show pw z i * (pw z j * z) = pw z (i + j) * z; rw [← ms, pw_add z i j]
def wt (f : Nat → Rat) (z : α) (k : Nat) : α := sc (f k) (pw z k)
theorem sc_sum (f : Nat → Rat) (a : α) : ∀ n, S (fun i => sc (f i) a) n = sc (S f n) a
 | 0 => (s0 a).symm
 | n + 1 => by show S _ n + sc (f n) a = sc (S f n + f n) a; rw [sc_sum f a n, sa]
theorem wt_cv (f g : Nat → Rat) (z : α) (k : Nat) : cv (wt f z) (wt g z) k = wt (cv f g) z k := by
 show S (fun i => sc (f i) (pw z i) * sc (g (k - i)) (pw z (k - i))) (k + 1) = sc (S (fun i => f i * g (k - i)) (k + 1)) (pw z k)
 rw [← sc_sum]
 exact S_congr fun i hi => by
  rw [← sl, ← sr, pw_add, show i + (k - i) = k by omega, ← sm]
theorem S_swap (f : Nat → Nat → α) (m : Nat) : ∀ n, S (fun i => S (f i) m) n = S (fun k => S (fun i => f i k) n) m
 | 0 => by
  show o = _
  induction m with
  | zero => rfl
  | succ m ih => show o = S _ m + o; rw [ao]; exact ih
 | n + 1 => by
  show S _ n + S (f n) m = S (fun k => S (fun i => f i k) n + f n k) m
  rw [S_swap f m n, S_add]
def al (n : Nat) (z : α) : α := S (wt at2 z) n
def tl (j n : Nat) (z : α) : α := S (wt (el j) z) n
theorem tl_succ (j n : Nat) (z : α) : tl (j + 1) n z = sc (1 / ((j : Rat) + 1)) (S (cv (wt (el j) z) (wt at2 z)) n) := by
 unfold tl
 rw [← S_sc]
 exact S_congr fun k _ => by
  rw [wt_cv]
  show sc (1 / ((j : Rat) + 1) * cv (el j) at2 k) (pw z k) = sc (1 / ((j : Rat) + 1)) (sc (cv (el j) at2 k) (pw z k))
  rw [sm]
theorem pw_nn {r : Rat} (h : 0 ≤ r) : ∀ k, 0 ≤ pw r k
 | 0 => by show (0 : Rat) ≤ 1; grind
 | k + 1 => Rat.mul_nonneg (pw_nn h k) h
theorem pw_nm (z : G) {r : Rat} (h : nm z ≤ r) : ∀ k, nm (pw z k) ≤ pw r k
 | 0 => by show ab 1 + ab 0 ≤ (1 : Rat); unfold ab; grind
 | k + 1 => Rat.le_trans (nm_mul _ _) (mul_le2 (nm_nn _) (Rat.le_trans (nm_nn z) h) (pw_nm z h k) h)
theorem wt_nm {f : Nat → Rat} (hf : ∀ i, 0 ≤ f i) (z : G) {r : Rat} (h : nm z ≤ r) (k : Nat) : nm (wt f z k) ≤ wt f r k := by
 unfold wt
 rw [nm_sc, ab_of (hf k)]
 exact Rat.mul_le_mul_of_nonneg_left (pw_nm z h k) (hf k)
theorem wt_nn {f : Nat → Rat} (hf : ∀ i, 0 ≤ f i) {r : Rat} (h : 0 ≤ r) (k : Nat) : 0 ≤ wt f r k := Rat.mul_nonneg (hf k) (pw_nn h k)
theorem dom (z : G) {r : Rat} (h : nm z ≤ r) (n : Nat) : ∀ j, nm (ex (al (n + 1) z) j - tl j (n + 1) z) ≤ ex (al (n + 1) r) j - tl j (n + 1) r
 | 0 => by
  have hz : tl 0 (n + 1) z = (e : G) := by
   unfold tl
   rw [S_head, S_congr (g := fun _ => (o : G)) fun i _ => by show sc (0 : Rat) _ = o; exact s0 _]
   have : ∀ n, S (fun _ => (o : G)) n = o := fun n => by
    induction n with
    | zero => rfl
    | succ n ih => show S _ n + (o : G) = o; rw [ih]; exact ao _
   rw [this, ao]; exact s1 _
  have hr : tl 0 (n + 1) r = (1 : Rat) := by
   unfold tl
   rw [S_head, S_congr (g := fun _ => (o : Rat)) fun i _ => by show sc (0 : Rat) _ = o; exact s0 _]
   have : ∀ n, S (fun _ => (o : Rat)) n = o := fun n => by
    induction n with
    | zero => rfl
    | succ n ih => show S _ n + (o : Rat) = o; rw [ih]; exact ao _
   rw [this, ao]; exact s1 _
  rw [hz, hr]
  show ab (1 - 1) + ab (0 - 0) ≤ (1 : Rat) - 1
  unfold ab; grind
 | j + 1 => by
  have hr : 0 ≤ r := Rat.le_trans (nm_nn z) h
  have ih := dom z h n j
  have h1 := prod_near (wt_nm (el_nn j) z h) (wt_nm at2_nn z h) (n + 1)
  have h2 := nm_mul (ex (al (n + 1) z) j - tl j (n + 1) z) (al (n + 1) z)
  have h3 : nm (al (n + 1) z) ≤ al (n + 1) r := S_nm _ _ _ fun i _ => wt_nm at2_nn z h i
  have h4 := mul_le2 (nm_nn _) (Rat.le_trans (nm_nn _) h3) ih h3
  have h5 := nm_add ((ex (al (n + 1) z) j - tl j (n + 1) z) * al (n + 1) z) (tl j (n + 1) z * al (n + 1) z - S (cv (wt (el j) z) (wt at2 z)) (n + 1))
  have e1 : ex (al (n + 1) z) (j + 1) - tl (j + 1) (n + 1) z = sc (1 / ((j : Rat) + 1)) ((ex (al (n + 1) z) j - tl j (n + 1) z) * al (n + 1) z + (tl j (n + 1) z * al (n + 1) z - S (cv (wt (el j) z) (wt at2 z)) (n + 1))) := by
   rw [tl_succ]
   show sc _ _ - _ = _
   exact G.ext' (by show _ * _ - _ * _ = _ * _; simp only [G.sub_re, G.add_re, G.mul_re, G.sub_im]; grind)
    (by show _ * _ - _ * _ = _ * _; simp only [G.sub_im, G.add_im, G.mul_im, G.sub_re]; grind)
  rw [e1, nm_sc, ab_of (inv_nn j), tl_succ]
  show _ ≤ 1 / ((j : Rat) + 1) * (ex (al (n + 1) r) j * al (n + 1) r) - 1 / ((j : Rat) + 1) * _
  have h6 : nm ((ex (al (n + 1) z) j - tl j (n + 1) z) * al (n + 1) z + (tl j (n + 1) z * al (n + 1) z - S (cv (wt (el j) z) (wt at2 z)) (n + 1))) ≤ ex (al (n + 1) r) j * al (n + 1) r - S (cv (wt (el j) r) (wt at2 r)) (n + 1) := by
   have h1' : nm (tl j (n + 1) z * al (n + 1) z - S (cv (wt (el j) z) (wt at2 z)) (n + 1)) ≤ tl j (n + 1) r * al (n + 1) r - S (cv (wt (el j) r) (wt at2 r)) (n + 1) := h1
   grind
  have h7 := Rat.mul_le_mul_of_nonneg_left h6 (inv_nn j)
  grind
def Y (n : Nat) (z : α) : α := S (wt Fk z) n
theorem tl_all (m n : Nat) (z : α) : S (fun j => tl j n z) m = S (fun k => sc (ph m k) (pw z k)) n := by
 show S (fun j => S (wt (el j) z) n) m = _
 rw [S_swap (fun j k => wt (el j) z k) n m]
 exact S_congr fun k _ => sc_sum (fun j => el j k) (pw z k) m
theorem tl_Y (n : Nat) (z : α) : S (fun j => tl j n z) n = Y n z := by
 rw [tl_all]
 exact S_congr fun k hk => by rw [ph_is k n hk]; rfl
theorem S_subG (f g : Nat → G) : ∀ n, S f n - S g n = S (fun i => f i - g i) n
 | 0 => G.ext' (by show (0 : Rat) - 0 = 0; grind) (by show (0 : Rat) - 0 = 0; grind)
 | n + 1 => by
  show S f n + f n - (S g n + g n) = S (fun i => f i - g i) n + (f n - g n)
  rw [← S_subG f g n]
  exact G.ext' (by simp only [G.sub_re, G.add_re]; grind) (by simp only [G.sub_im, G.add_im]; grind)
theorem S_subR (f g : Nat → Rat) : ∀ n, S f n - S g n = S (fun i => f i - g i) n
 | 0 => by show (0 : Rat) - 0 = 0; grind
 | n + 1 => by
  show S f n + f n - (S g n + g n) = S (fun i => f i - g i) n + (f n - g n)
  rw [← S_subR f g n]; grind
theorem dom_all (z : G) {r : Rat} (h : nm z ≤ r) (n : Nat) : nm (E (n + 1) (al (n + 1) z) - Y (n + 1) z) ≤ E (n + 1) (al (n + 1) r) - Y (n + 1) r := by
 rw [← tl_Y, ← tl_Y]
 unfold E
 rw [S_subG, S_subR]
 exact S_nm _ _ _ fun j _ => dom z h n j
theorem ex_tl {r : Rat} (h : 0 ≤ r) (n : Nat) : ∀ j, ex (al n r) j ≤ tl j (j * n + 1) r
 | 0 => by
  rw [Nat.zero_mul]
  show (1 : Rat) ≤ 0 + 1 * 1
  grind
 | j + 1 => by
  have ih := ex_tl h n j
  have ha : 0 ≤ al n r := S_nn (wt_nn at2_nn h) n
  have h1 := Rat.mul_le_mul_of_nonneg_right ih ha
  have h2 : tl j (j * n + 1) r * al n r ≤ _ := prod_le (wt_nn (el_nn j) h) (wt_nn at2_nn h) (n := j * n + 1) (m := n)
  rw [tl_succ, show (j + 1) * n + 1 = j * n + 1 + n by rw [Nat.add_mul]; omega]
  exact Rat.mul_le_mul_of_nonneg_left (Rat.le_trans h1 h2) (inv_nn j)
theorem E_Y {r : Rat} (h : 0 ≤ r) (n : Nat) : E n (al n r) ≤ Y (n * n + 1) r := by
 have h1 : E n (al n r) ≤ S (fun j => tl j (n * n + 1) r) n := S_le fun j hj => Rat.le_trans (ex_tl h n j) (S_mono (wt_nn (el_nn j) h) (by have := Nat.mul_le_mul_right n (show j ≤ n by omega); omega))
 rw [tl_all] at h1
 exact Rat.le_trans h1 (S_le fun k _ => Rat.mul_le_mul_of_nonneg_right (ph_le n k) (pw_nn h k))
theorem Y_G (z : G) : ∀ n, ((e : G) - z) * Y (n + 1) z = (e : G) + z - sc 2 (pw z (n + 1))
 | 0 => by
  refine G.ext' ?_ ?_
  ·show (1 - z.re) * (0 + 1 * 1) - (0 - z.im) * (0 + 1 * 0) = 1 + z.re - 2 * (1 * z.re - 0 * z.im); grind
  ·show (1 - z.re) * (0 + 1 * 0) + (0 - z.im) * (0 + 1 * 1) = 0 + z.im - 2 * (1 * z.im + 0 * z.re); grind
 | n + 1 => by
  have ih := Y_G z n
  have h1 := congrArg G.re ih
  have h2 := congrArg G.im ih
  refine G.ext' ?_ ?_
  ·change (1 - z.re) * (Y (n + 1) z).re - (0 - z.im) * (Y (n + 1) z).im = 1 + z.re - 2 * (pw z (n + 1)).re at h1
   change (1 - z.re) * (Y (n + 1) z).im + (0 - z.im) * (Y (n + 1) z).re = 0 + z.im - 2 * (pw z (n + 1)).im at h2
   show (1 - z.re) * ((Y (n + 1) z).re + 2 * (pw z (n + 1)).re) - (0 - z.im) * ((Y (n + 1) z).im + 2 * (pw z (n + 1)).im) = 1 + z.re - 2 * ((pw z (n + 1)).re * z.re - (pw z (n + 1)).im * z.im)
   grind
  ·change (1 - z.re) * (Y (n + 1) z).re - (0 - z.im) * (Y (n + 1) z).im = 1 + z.re - 2 * (pw z (n + 1)).re at h1
   change (1 - z.re) * (Y (n + 1) z).im + (0 - z.im) * (Y (n + 1) z).re = 0 + z.im - 2 * (pw z (n + 1)).im at h2
   show (1 - z.re) * ((Y (n + 1) z).im + 2 * (pw z (n + 1)).im) + (0 - z.im) * ((Y (n + 1) z).re + 2 * (pw z (n + 1)).re) = 0 + z.im - 2 * ((pw z (n + 1)).re * z.im + (pw z (n + 1)).im * z.re)
   grind
theorem Y_R (r : Rat) : ∀ n, (1 - r) * Y (n + 1) r = 1 + r - 2 * pw r (n + 1)
 | 0 => by show (1 - r) * (0 + 1 * 1) = 1 + r - 2 * (1 * r); grind
 | n + 1 => by
  have ih := Y_R r n
  show (1 - r) * (Y (n + 1) r + 2 * pw r (n + 1)) = 1 + r - 2 * (pw r (n + 1) * r)
  grind
theorem log_near (z : G) {r : Rat} (h : nm z ≤ r) (h1 : r ≤ 1) (n : Nat) : (1 - r) * nm (((e : G) - z) * E (n + 1) (al (n + 1) z) - ((e : G) + z)) ≤ 4 * pw r (n + 1) := by
 have hr : 0 ≤ r := Rat.le_trans (nm_nn z) h
 have d := dom_all z h n
 have u := E_Y hr (n + 1)
 have y1 := Y_R r n
 have y2 := Y_R r ((n + 1) * (n + 1))
 have p1 := pw_nn hr ((n + 1) * (n + 1) + 1)
 have pn := pw_nn hr (n + 1)
 have e1 : ((e : G) - z) * E (n + 1) (al (n + 1) z) - ((e : G) + z) = ((e : G) - z) * (E (n + 1) (al (n + 1) z) - Y (n + 1) z) - sc 2 (pw z (n + 1)) := by
  have y := Y_G z n
  have g1 := congrArg G.re y
  have g2 := congrArg G.im y
  refine G.ext' ?_ ?_
  ·simp only [G.sub_re, G.mul_re, G.sub_im, G.add_re] at g1 ⊢; grind
  ·simp only [G.sub_im, G.mul_im, G.sub_re, G.add_im] at g2 ⊢; grind
 rw [e1]
 have a1 := nm_sub (((e : G) - z) * (E (n + 1) (al (n + 1) z) - Y (n + 1) z)) (sc 2 (pw z (n + 1)))
 have a2 := nm_mul ((e : G) - z) (E (n + 1) (al (n + 1) z) - Y (n + 1) z)
 have a3 := nm_sub (e : G) z
 have a4 : nm (e : G) = 1 := by show ab 1 + ab 0 = 1; unfold ab; grind
 have a5 := pw_nm z h (n + 1)
 have a6 : nm (sc 2 (pw z (n + 1))) ≤ 2 * pw r (n + 1) := by rw [nm_sc, ab_of (by grind)]; exact Rat.mul_le_mul_of_nonneg_left a5 (by grind)
 have a7 := mul_le2 (nm_nn ((e : G) - z)) (Rat.le_trans (nm_nn _) d) (show nm ((e : G) - z) ≤ 1 + r by grind) d
 -- all times 1 - r
 have h0 : 0 ≤ 1 - r := by grind
 have b1 : (1 - r) * (E (n + 1) (al (n + 1) r) - Y (n + 1) r) ≤ 2 * pw r (n + 1) := by
  have := Rat.mul_le_mul_of_nonneg_left u h0
  grind
 have b2 := Rat.mul_le_mul_of_nonneg_left b1 (show 0 ≤ 1 + r by grind)
 have b3 : nm (((e : G) - z) * (E (n + 1) (al (n + 1) z) - Y (n + 1) z) - sc 2 (pw z (n + 1))) ≤ (1 + r) * (E (n + 1) (al (n + 1) r) - Y (n + 1) r) + 2 * pw r (n + 1) := by grind
 have b4 := Rat.mul_le_mul_of_nonneg_left b3 h0
 grind
def Nr (s t : Nat → G) : Prop := ∀ d : Rat, 0 < d → ∃ N, ∀ n, N ≤ n → nm (s n - t n) ≤ d
def Bd (s : Nat → G) : Prop := ∃ B : Rat, 0 ≤ B ∧ ∀ n, nm (s n) ≤ B
theorem nm_eq {a b : G} (h : a = b) : nm a = nm b := by rw [h]
theorem Nr.refl (s : Nat → G) : Nr s s := fun d hd => ⟨0, fun n _ => by
 show ab ((s n).re - (s n).re) + ab ((s n).im - (s n).im) ≤ d
 unfold ab; grind⟩
theorem Nr.of_eq {s t : Nat → G} (h : ∀ n, s n = t n) : Nr s t := by rw [show s = t from funext h]; exact Nr.refl t
theorem Nr.symm {s t : Nat → G} (h : Nr s t) : Nr t s := fun d hd => by
 obtain ⟨N, hN⟩ := h d hd
 refine ⟨N, fun n hn => ?_⟩
 have := hN n hn
 rw [nm_eq (show t n - s n = -(s n - t n) from G.ext' (by simp only [G.sub_re, G.neg_re]; grind) (by simp only [G.sub_im, G.neg_im]; grind)), nm_neg]; exact this
theorem half2 {d : Rat} (h : 0 < d) : 0 < d / 2 := by grind
theorem Nr.trans {s t u : Nat → G} (h : Nr s t) (k : Nr t u) : Nr s u := fun d hd => by
 obtain ⟨N, hN⟩ := h (d / 2) (half2 hd)
 obtain ⟨M, hM⟩ := k (d / 2) (half2 hd)
 refine ⟨N + M, fun n hn => ?_⟩
 have h1 := hN n (by omega)
 have h2 := hM n (by omega)
 have h3 := nm_add (s n - t n) (t n - u n)
 rw [nm_eq (show s n - t n + (t n - u n) = s n - u n from G.ext' (by simp only [G.sub_re, G.add_re]; grind) (by simp only [G.sub_im, G.add_im]; grind))] at h3
 grind
theorem div_le {d B x : Rat} (hB : 0 < B) (h : x ≤ d / B) : x * B ≤ d := by
 have e : d / B * B = d := by
  rw [Rat.div_def, Rat.mul_assoc, Rat.inv_mul_cancel _ (by grind), Rat.mul_one]
 have := Rat.mul_le_mul_of_nonneg_right h (show 0 ≤ B by grind)
 grind
theorem div_pos {d B : Rat} (hd : 0 < d) (hB : 0 < B) : 0 < d / B := by rw [Rat.div_def]; exact Rat.mul_pos hd (Rat.inv_pos.2 hB)
theorem Nr.mul {s t u v : Nat → G} (h : Nr s t) (k : Nr u v) (bu : Bd u) (bt : Bd t) : Nr (fun n => s n * u n) (fun n => t n * v n) := fun d hd => by
 obtain ⟨A, hA, bA⟩ := bu
 obtain ⟨B, hB, bB⟩ := bt
 obtain ⟨N, hN⟩ := h (d / (A + B + 1)) (div_pos hd (by grind))
 obtain ⟨M, hM⟩ := k (d / (A + B + 1)) (div_pos hd (by grind))
 refine ⟨N + M, fun n hn => ?_⟩
 have h1 := hN n (by omega)
 have h2 := hM n (by omega)
 have h0 : 0 ≤ d / (A + B + 1) := Rat.le_trans (nm_nn _) h1
 have h3 := nm_add ((s n - t n) * u n) (t n * (u n - v n))
 rw [nm_eq (show (s n - t n) * u n + t n * (u n - v n) = s n * u n - t n * v n from G.ext' (by simp only [G.sub_re, G.add_re, G.mul_re, G.sub_im]; grind) (by simp only [G.sub_im, G.add_im, G.mul_im, G.sub_re]; grind))] at h3
 have h4 := Rat.le_trans (nm_mul (s n - t n) (u n)) (mul_le2 (nm_nn _) hA h1 (bA n))
 have h5 := Rat.le_trans (nm_mul (t n) (u n - v n)) (mul_le2 (nm_nn _) h0 (bB n) h2)
 have h6 := div_le (show 0 < A + B + 1 by grind) (show d / (A + B + 1) ≤ d / (A + B + 1) from Rat.le_refl)
 have h7 : nm (s n * u n - t n * v n) ≤ d / (A + B + 1) * A + B * (d / (A + B + 1)) := by grind
 generalize d / (A + B + 1) = i at *
 show nm (s n * u n - t n * v n) ≤ d
 grind
theorem Bd.const (z : G) : Bd (fun _ => z) := ⟨nm z, nm_nn z, fun _ => Rat.le_refl⟩
theorem Bd.add {s t : Nat → G} (h : Bd s) (k : Bd t) : Bd (fun n => s n + t n) := by
 obtain ⟨A, hA, bA⟩ := h
 obtain ⟨B, hB, bB⟩ := k
 exact ⟨A + B, by grind, fun n => by have := nm_add (s n) (t n); have := bA n; have := bB n; grind⟩
theorem Bd.mul {s t : Nat → G} (h : Bd s) (k : Bd t) : Bd (fun n => s n * t n) := by
 obtain ⟨A, hA, bA⟩ := h
 obtain ⟨B, hB, bB⟩ := k
 exact ⟨A * B, Rat.mul_nonneg hA hB, fun n => Rat.le_trans (nm_mul _ _) (mul_le2 (nm_nn _) hB (bA n) (bB n))⟩
theorem E_nm (n : Nat) (z : G) {r : Rat} (h : nm z ≤ r) : nm (E n z) ≤ E n r := S_nm _ _ n fun i _ => ex_nm z h i
theorem E_bd {R : Rat} (hR : 0 ≤ R) : ∃ B : Rat, 0 ≤ B ∧ ∀ n, E n R ≤ B := by
 obtain ⟨N, hN⟩ := E_rest hR (show (0 : Rat) < 1 by grind)
 have hn : ∀ n, 0 ≤ E n R := S_nn (ex_nn hR)
 refine ⟨E N R + 1, by have := hn N; grind, fun n => ?_⟩
 rcases Nat.le_total n N with h | h
 ·have := S_mono (ex_nn hR) h
  show S (ex R) n ≤ S (ex R) N + 1
  grind
 ·have := hN N (Nat.le_refl _) n h; grind
theorem Bd.E {s : Nat → G} (h : Bd s) : Bd (fun n => E n (s n)) := by
 obtain ⟨A, hA, bA⟩ := h
 obtain ⟨B, hB, bB⟩ := E_bd hA
 exact ⟨B, hB, fun n => Rat.le_trans (E_nm n (s n) (bA n)) (bB n)⟩
theorem Nr.E_add {s t : Nat → G} (h : Bd s) (k : Bd t) : Nr (fun n => E n (s n) * E n (t n)) (fun n => E n (s n + t n)) := fun d hd => by
 obtain ⟨A, hA, bA⟩ := h
 obtain ⟨B, hB, bB⟩ := k
 obtain ⟨N, hN⟩ := MX.E_add (show 0 ≤ A + B by grind) hd
 exact ⟨N, fun n hn => hN n hn _ _ (by have := bA n; have := bB n; grind)⟩
def rl (x : Rat) : G := ⟨x, 0⟩
def im (x : Rat) : G := ⟨0, x⟩
theorem nm_rl (x : Rat) : nm (rl x) = ab x := by show ab x + ab 0 = _; have : ab 0 = 0 := ab_of Rat.le_refl; grind
theorem nm_im (x : Rat) : nm (im x) = ab x := by show ab 0 + ab x = _; have : ab 0 = 0 := ab_of Rat.le_refl; grind
theorem pw_small {r : Rat} (h : 0 ≤ r) (h1 : r ≤ 1 / 2) : ∀ k, 2 ^ k * pw r k ≤ 1
 | 0 => by show 2 ^ 0 * (1 : Rat) ≤ 1; rw [Rat.pow_zero]; grind
 | k + 1 => by
  have ih := pw_small h h1 k
  have hp := pw_nn h k
  have t0 : (0 : Rat) ≤ 2 ^ k := by have := two_pow_ge k; have := nat_nn k; grind
  rw [Rat.pow_succ]
  show 2 ^ k * 2 * (pw r k * r) ≤ 1
  have h2 := Rat.mul_le_mul_of_nonneg_left h1 (Rat.mul_nonneg t0 hp)
  grind
theorem pw_lim {r : Rat} (h : 0 ≤ r) (h1 : r ≤ 1 / 2) {d : Rat} (hd : 0 < d) : ∃ N, ∀ n, N ≤ n → pw r n ≤ d := by
 obtain ⟨N, hN⟩ := arch (1 / d)
 refine ⟨N, fun n hn => ?_⟩
 have h2 := pw_small h h1 n
 have h3 := two_pow_ge n
 have h4 : (N : Rat) ≤ (n : Rat) := Rat.natCast_le_natCast.2 hn
 have h5 := pw_nn h n
 have e0 : 1 / d * d = 1 := by rw [Rat.div_def, Rat.one_mul]; exact Rat.inv_mul_cancel _ (by grind)
 rcases (show pw r n ≤ d ∨ d < pw r n by grind) with a | a
 ·exact a
 ·have b : 1 / d ≤ 2 ^ n := by grind
  have c := Rat.mul_le_mul_of_nonneg_right b (show 0 ≤ d by grind)
  have e := Rat.mul_lt_mul_of_pos_left a (show (0 : Rat) < 2 ^ n by have := nat_nn n; grind)
  grind
theorem log_lim {z : G} (h : nm z ≤ 1 / 2) : Nr (fun n => ((e : G) - z) * E n (al n z)) (fun _ => (e : G) + z) := fun d hd => by
 obtain ⟨N, hN⟩ := pw_lim (nm_nn z) h (show 0 < d / 8 by grind)
 refine ⟨N + 1, fun n hn => ?_⟩
 obtain ⟨m, rfl⟩ : ∃ m, n = m + 1 := ⟨n - 1, by omega⟩
 have h1 := log_near z Rat.le_refl (by grind) m
 have h2 := hN (m + 1) (by omega)
 have h3 := Rat.mul_le_mul_of_nonneg_right (show (1 : Rat) / 2 ≤ 1 - nm z by grind) (nm_nn (((e : G) - z) * E (m + 1) (al (m + 1) z) - ((e : G) + z)))
 show nm (((e : G) - z) * E (m + 1) (al (m + 1) z) - ((e : G) + z)) ≤ d
 grind
theorem rl_add (x y : Rat) : rl x + rl y = rl (x + y) := G.ext' rfl (by show (0 : Rat) + 0 = 0; grind)
theorem rl_mul (x y : Rat) : rl x * rl y = rl (x * y) := G.ext' (by show x * y - 0 * 0 = x * y; grind) (by show x * 0 + 0 * y = 0; grind)
theorem im_add (x y : Rat) : im x + im y = im (x + y) := G.ext' (by show (0 : Rat) + 0 = 0; grind) rfl
theorem rl_sc (r x : Rat) : sc r (rl x) = rl (sc r x) := G.ext' rfl (by show r * 0 = 0; grind)
theorem rl_S (f : Nat → Rat) : ∀ n, S (fun i => rl (f i)) n = rl (S f n)
 | 0 => rfl
 | n + 1 => by show S _ n + rl (f n) = rl (S f n + f n); rw [rl_S f n, rl_add]
theorem ex_rl (x : Rat) : ∀ k, ex (rl x) k = rl (ex x k)
 | 0 => rfl
 | k + 1 => by show sc _ (ex (rl x) k * rl x) = rl (sc _ (ex x k * x)); rw [ex_rl x k, rl_mul, rl_sc]
theorem E_rl (n : Nat) (x : Rat) : E n (rl x) = rl (E n x) := by
 unfold E; rw [← rl_S]; exact S_congr fun i _ => ex_rl x i
theorem pw_rl (x : Rat) : ∀ k, pw (rl x) k = rl (pw x k)
 | 0 => rfl
 | k + 1 => by show pw (rl x) k * rl x = rl (pw x k * x); rw [pw_rl x k, rl_mul]
theorem al_rl (n : Nat) (x : Rat) : al n (rl x) = rl (al n x) := by
 unfold al; rw [← rl_S]; exact S_congr fun i _ => by unfold wt; rw [pw_rl, rl_sc]
def Rr (s t : Nat → Rat) : Prop := ∀ d : Rat, 0 < d → ∃ N, ∀ n, N ≤ n → s n ≤ t n + d ∧ t n ≤ s n + d
def Rb (s : Nat → Rat) : Prop := ∃ B : Rat, 0 ≤ B ∧ ∀ n, -B ≤ s n ∧ s n ≤ B
theorem ab_le {x d : Rat} : ab x ≤ d ↔ x ≤ d ∧ -x ≤ d := by unfold ab; constructor <;> intro h <;> grind
theorem Nr.re {s t : Nat → G} (h : Nr s t) : Rr (fun n => (s n).re) (fun n => (t n).re) := fun d hd => by
 obtain ⟨N, hN⟩ := h d hd
 refine ⟨N, fun n hn => ?_⟩
 have h1 := hN n hn
 have h2 := ab_nn (s n - t n).im
 have h3 : ab (s n - t n).re ≤ d := by unfold nm at h1; grind
 rw [G.sub_re] at h3
 have := ab_le.1 h3
 grind
theorem Nr.im {s t : Nat → G} (h : Nr s t) : Rr (fun n => (s n).im) (fun n => (t n).im) := fun d hd => by
 obtain ⟨N, hN⟩ := h d hd
 refine ⟨N, fun n hn => ?_⟩
 have h1 := hN n hn
 have h2 := ab_nn (s n - t n).re
 have h3 : ab (s n - t n).im ≤ d := by unfold nm at h1; grind
 rw [G.sub_im] at h3
 have := ab_le.1 h3
 grind
theorem Rb.rl {s : Nat → Rat} (h : Rb s) : Bd (fun n => rl (s n)) := by
 obtain ⟨B, hB, h⟩ := h
 exact ⟨B, hB, fun n => by rw [nm_rl]; exact ab_le.2 ⟨(h n).2, by have := (h n).1; grind⟩⟩
theorem Rb.im {s : Nat → Rat} (h : Rb s) : Bd (fun n => MX.im (s n)) := by
 obtain ⟨B, hB, h⟩ := h
 exact ⟨B, hB, fun n => by rw [nm_im]; exact ab_le.2 ⟨(h n).2, by have := (h n).1; grind⟩⟩
theorem e_add {s t : Nat → Rat} (h : Rb s) (k : Rb t) : Rr (fun n => E n (s n) * E n (t n)) (fun n => E n (s n + t n)) := by
 have := (Nr.E_add h.rl k.rl).re
 intro d hd
 obtain ⟨N, hN⟩ := this d hd
 refine ⟨N, fun n hn => ?_⟩
 have h1 := hN n hn
 dsimp only at h1 ⊢
 rw [rl_add, E_rl, E_rl, E_rl, rl_mul] at h1
 exact h1
theorem Nr.cmul {s t : Nat → G} (c : G) (h : Nr s t) (bt : Bd s) : Nr (fun n => c * s n) (fun n => c * t n) := Nr.mul (Nr.refl _) h bt (Bd.const c)
theorem al_bdd {z : G} (h : nm z ≤ 1 / 2) : Bd (fun n => al n z) := by
 refine ⟨4, by grind, fun n => ?_⟩
 have hz := nm_nn z
 have h1 : nm (al n z) ≤ S (fun k => wt at2 (nm z) k) n := S_nm _ _ _ fun i _ => wt_nm at2_nn z Rat.le_refl i
 have h2 : ∀ n, S (fun k => wt at2 (nm z) k) n + 4 * pw (nm z) n ≤ 4 := by
  intro n
  induction n with
  | zero => show (0 : Rat) + 4 * 1 ≤ 4; grind
  | succ n ih =>
   have p := pw_nn hz n
   have a : at2 n ≤ 2 := by
    unfold at2; split
    ·have hn : (1 : Rat) ≤ (n : Rat) := by exact_mod_cast (show 1 ≤ n by omega)
     have i := Rat.inv_pos.2 (show (0 : Rat) < n by grind)
     have e : (n : Rat) * (n : Rat)⁻¹ = 1 := Rat.mul_inv_cancel _ (by grind)
     have := Rat.mul_le_mul_of_nonneg_right hn (show 0 ≤ (n : Rat)⁻¹ by grind)
     rw [Rat.div_def]; grind
    ·grind
   have b := Rat.mul_le_mul_of_nonneg_right a p
   have c := Rat.mul_le_mul_of_nonneg_left h p
   show S _ n + at2 n * pw (nm z) n + 4 * (pw (nm z) n * nm z) ≤ 4
   grind
 have := h2 n; have := pw_nn hz n
 grind
theorem al_rb {u : Rat} (h : ab u ≤ 1 / 2) : Rb (fun n => al n u) := by
 obtain ⟨B, hB, b⟩ := al_bdd (z := rl u) (by rw [nm_rl]; exact h)
 refine ⟨B, hB, fun n => ?_⟩
 have b1 := b n
 dsimp only at b1 ⊢
 rw [al_rl, nm_rl] at b1
 have := ab_le.1 b1
 grind
theorem e_log {u : Rat} (h : ab u ≤ 1 / 2) : Rr (fun n => (1 - u) * E n (al n u)) (fun _ => 1 + u) := by
 have h1 := (log_lim (z := rl u) (by rw [nm_rl]; exact h)).re
 intro d hd
 obtain ⟨N, hN⟩ := h1 d hd
 refine ⟨N, fun n hn => ?_⟩
 have h2 := hN n hn
 dsimp only at h2 ⊢
 rw [al_rl, E_rl] at h2
 change (1 - u) * E n (al n u) - (0 - 0) * 0 ≤ 1 + u + d ∧ 1 + u ≤ (1 - u) * E n (al n u) - (0 - 0) * 0 + d at h2
 grind
def lam (n : Nat) : Rat := al n (1 / 3)
theorem third : ab (1 / 3 : Rat) ≤ 1 / 2 := by rw [ab_of (by grind)]; grind
theorem e_two : Rr (fun n => E n (lam n)) (fun _ => 2) := by
 intro d hd
 obtain ⟨N, hN⟩ := e_log third (d / 2) (half2 hd)
 refine ⟨N, fun n hn => ?_⟩
 have h2 := hN n hn
 dsimp only at h2 ⊢
 unfold lam
 grind
def qtP (n : Nat) : G := al n (im (1 / 5)) + al n (im (1 / 5)) + (al n (im (1 / 5)) + al n (im (1 / 5))) + al n (im (-(1 / 239)))
theorem quarter : Nr (fun n => E n (qtP n)) (fun _ => im 1) := by
 have n1 : nm (im (1 / 5)) ≤ 1 / 2 := by rw [nm_im, ab_of (by grind)]; grind
 have n2 : nm (im (-(1 / 239))) ≤ 1 / 2 := by rw [nm_im, ab_neg, ab_of (by grind)]; grind
 have b1 := al_bdd n1
 have b2 := al_bdd n2
 have p1 : Nr (fun n => E n (al n (im (1 / 5)))) (fun _ => ⟨12 / 13, 5 / 13⟩) := by
  refine Nr.trans (Nr.of_eq fun n => ?_) (Nr.trans (Nr.cmul ⟨25 / 26, 5 / 26⟩ (log_lim n1) ((Bd.const _).mul b1.E)) (Nr.of_eq fun n => ?_))
  ·exact G.ext' (by show _ = 25 / 26 * ((1 - 0) * _ - (0 - 1 / 5) * _) - 5 / 26 * ((1 - 0) * _ + (0 - 1 / 5) * _); grind) (by show _ = 25 / 26 * ((1 - 0) * _ + (0 - 1 / 5) * _) + 5 / 26 * ((1 - 0) * _ - (0 - 1 / 5) * _); grind)
  ·exact G.ext' (by show 25 / 26 * (1 + 0) - 5 / 26 * (0 + 1 / 5) = (12 / 13 : Rat); grind) (by show 25 / 26 * (0 + 1 / 5) + 5 / 26 * (1 + 0) = (5 / 13 : Rat); grind)
 have p2 : Nr (fun n => E n (al n (im (-(1 / 239))))) (fun _ => ⟨28560 / 28561, -(239 / 28561)⟩) := by
  refine Nr.trans (Nr.of_eq fun n => ?_) (Nr.trans (Nr.cmul ⟨57121 / 57122, -(239 / 57122)⟩ (log_lim n2) ((Bd.const _).mul b2.E)) (Nr.of_eq fun n => ?_))
  ·exact G.ext' (by show _ = 57121 / 57122 * ((1 - 0) * _ - (0 - -(1 / 239)) * _) - -(239 / 57122) * ((1 - 0) * _ + (0 - -(1 / 239)) * _); grind) (by show _ = 57121 / 57122 * ((1 - 0) * _ + (0 - -(1 / 239)) * _) + -(239 / 57122) * ((1 - 0) * _ - (0 - -(1 / 239)) * _); grind)
  ·exact G.ext' (by show 57121 / 57122 * (1 + 0) - -(239 / 57122) * (0 + -(1 / 239)) = (28560 / 28561 : Rat); grind) (by show 57121 / 57122 * (0 + -(1 / 239)) + -(239 / 57122) * (1 + 0) = (-(239 / 28561) : Rat); grind)
 have q2 := Nr.trans (Nr.symm (Nr.E_add b1 b1)) (Nr.mul p1 p1 b1.E (Bd.const _))
 have q4 := Nr.trans (Nr.symm (Nr.E_add (b1.add b1) (b1.add b1))) (Nr.mul q2 q2 (b1.add b1).E (Bd.const _))
 have q5 := Nr.trans (Nr.symm (Nr.E_add ((b1.add b1).add (b1.add b1)) b2)) (Nr.mul q4 p2 b2.E (Bd.const _))
 refine Nr.trans q5 (Nr.of_eq fun n => ?_)
 exact G.ext' (by simp only [G.mul_re, G.mul_im]; show _ = (0 : Rat); grind) (by simp only [G.mul_re, G.mul_im]; show _ = (1 : Rat); grind)
theorem ex_lip (z w : G) {R : Rat} (hz : nm z ≤ R) (hw : nm w ≤ R) : ∀ k, nm (ex z (k + 1) - ex w (k + 1)) ≤ nm (z - w) * ex R k
 | 0 => by
  show nm (sc (1 / (((0 : Nat) : Rat) + 1)) ((e : G) * z) - sc (1 / (((0 : Nat) : Rat) + 1)) ((e : G) * w)) ≤ nm (z - w) * 1
  rw [em, em, show (1 / (((0 : Nat) : Rat) + 1)) = 1 by grind, s1, s1]; grind
 | k + 1 => by
  have hR : 0 ≤ R := Rat.le_trans (nm_nn z) hz
  have ih := ex_lip z w hz hw k
  have h1 := Rat.le_trans (nm_mul (ex z (k + 1) - ex w (k + 1)) z) (mul_le2 (nm_nn _) hR ih hz)
  have h2 := Rat.le_trans (nm_mul (ex w (k + 1)) (z - w)) (mul_le2 (nm_nn _) (nm_nn _) (ex_nm w hw (k + 1)) Rat.le_refl)
  have h3 := nm_add ((ex z (k + 1) - ex w (k + 1)) * z) (ex w (k + 1) * (z - w))
  have e1 : ex z (k + 2) - ex w (k + 2) = sc (1 / (((k + 1 : Nat) : Rat) + 1)) ((ex z (k + 1) - ex w (k + 1)) * z + ex w (k + 1) * (z - w)) := by
   show sc _ (ex z (k + 1) * z) - sc _ (ex w (k + 1) * w) = _
   exact G.ext' (by show _ * (_ * _ - _ * _) - _ * (_ * _ - _ * _) = _ * (_ + _); simp only [G.sub_re, G.mul_re, G.sub_im]; grind) (by show _ * (_ * _ + _ * _) - _ * (_ * _ + _ * _) = _ * (_ + _); simp only [G.sub_im, G.mul_im, G.sub_re]; grind)
  rw [e1, nm_sc, ab_of (inv_nn (k + 1)), exR_succ R k]
  rw [show ((k + 1 : Nat) : Rat) = (k : Rat) + 1 by grind]
  have hk := nat_nn k
  have i1 : ((k : Rat) + 1) * (1 / ((k : Rat) + 1)) = 1 := by grind
  have i2 : ((k : Rat) + 1 + 1) * (1 / ((k : Rat) + 1 + 1)) = 1 := by grind
  have i3 : 0 ≤ 1 / ((k : Rat) + 1 + 1) := by have := Rat.inv_pos.2 (show 0 < (k : Rat) + 1 + 1 by grind); grind
  have h2' : nm (ex w (k + 1) * (z - w)) ≤ 1 / ((k : Rat) + 1) * (ex R k * R) * nm (z - w) := by rw [exR_succ] at h2; exact h2
  generalize 1 / ((k : Rat) + 1) = u at *
  generalize 1 / ((k : Rat) + 1 + 1) = v at *
  have h4 : nm ((ex z (k + 1) - ex w (k + 1)) * z + ex w (k + 1) * (z - w)) ≤ nm (z - w) * ex R k * R + u * (ex R k * R) * nm (z - w) := by grind
  have h5 := Rat.mul_le_mul_of_nonneg_left h4 i3
  have e2 : v * (nm (z - w) * ex R k * R + u * (ex R k * R) * nm (z - w)) = nm (z - w) * (u * (ex R k * R)) := by
   have a : v * (u * ((k : Rat) + 1) + u) = u := by grind
   have b : nm (z - w) * ex R k * R = nm (z - w) * ex R k * R * (((k : Rat) + 1) * u) := by rw [i1, Rat.mul_one]
   rw [b]
   grind
  rw [e2] at h5
  exact h5
theorem E_lip (z w : G) {R : Rat} (hz : nm z ≤ R) (hw : nm w ≤ R) (n : Nat) : nm (E n z - E n w) ≤ nm (z - w) * E n R := by
 have hR : 0 ≤ R := Rat.le_trans (nm_nn z) hz
 have hd := nm_nn (z - w)
 rcases n with _ | n
 ·show ab (0 - 0) + ab (0 - 0) ≤ _ * (0 : Rat); unfold ab; grind
 ·have h1 : nm (E (n + 1) z - E (n + 1) w) ≤ nm (z - w) * E n R := by
   induction n with
   | zero => show ab (0 + 1 - (0 + 1)) + ab (0 + 0 - (0 + 0)) ≤ _ * (0 : Rat); unfold ab; grind
   | succ n ih =>
    have a1 := ex_lip z w hz hw n
    have a2 := nm_add (E (n + 1) z - E (n + 1) w) (ex z (n + 1) - ex w (n + 1))
    rw [nm_eq (show E (n + 1) z - E (n + 1) w + (ex z (n + 1) - ex w (n + 1)) = E (n + 1 + 1) z - E (n + 1 + 1) w by
     show _ = (E (n + 1) z + ex z (n + 1)) - (E (n + 1) w + ex w (n + 1))
     exact G.ext' (by simp only [G.sub_re, G.add_re]; grind) (by simp only [G.sub_im, G.add_im]; grind))] at a2
    show _ ≤ nm (z - w) * (E n R + ex R n)
    grind
  have h2 : E n R ≤ E (n + 1) R := S_mono (ex_nn hR) (by omega)
  have h3 := Rat.mul_le_mul_of_nonneg_left h2 hd
  grind
theorem Nr.E {s t : Nat → G} (h : Nr s t) (bs : Bd s) (bt : Bd t) : Nr (fun n => E n (s n)) (fun n => E n (t n)) := fun d hd => by
 obtain ⟨A, hA, bA⟩ := bs
 obtain ⟨B, hB, bB⟩ := bt
 obtain ⟨C, hC, bC⟩ := E_bd (show 0 ≤ A + B by grind)
 obtain ⟨N, hN⟩ := h (d / (C + 1)) (div_pos hd (by grind))
 refine ⟨N, fun n hn => ?_⟩
 have h1 := hN n hn
 have h2 := E_lip (s n) (t n) (R := A + B) (by have := bA n; grind) (by have := bB n; grind) n
 have h3 := mul_le2 (nm_nn (s n - t n)) (show 0 ≤ C + 1 by grind) h1 (show MX.E n (A + B) ≤ C + 1 by have := bC n; grind)
 have h4 := div_le (show 0 < C + 1 by grind) (show d / (C + 1) ≤ d / (C + 1) from Rat.le_refl)
 show nm (MX.E n (s n) - MX.E n (t n)) ≤ d
 grind
theorem Rr.nr {s t : Nat → Rat} (h : Rr s t) : Nr (fun n => rl (s n)) (fun n => rl (t n)) := fun d hd => by
 obtain ⟨N, hN⟩ := h d hd
 refine ⟨N, fun n hn => ?_⟩
 have := hN n hn
 show ab (s n - t n) + ab (0 - 0) ≤ d
 have : ab (s n - t n) ≤ d := ab_le.2 ⟨by grind, by grind⟩
 have : ab ((0 : Rat) - 0) = 0 := by unfold ab; grind
 grind
theorem Rr.ni {s t : Nat → Rat} (h : Rr s t) : Nr (fun n => MX.im (s n)) (fun n => MX.im (t n)) := fun d hd => by
 obtain ⟨N, hN⟩ := h d hd
 refine ⟨N, fun n hn => ?_⟩
 have := hN n hn
 show ab (0 - 0) + ab (s n - t n) ≤ d
 have : ab (s n - t n) ≤ d := ab_le.2 ⟨by grind, by grind⟩
 have : ab ((0 : Rat) - 0) = 0 := by unfold ab; grind
 grind
theorem Rr.refl (s : Nat → Rat) : Rr s s := fun d hd => ⟨0, fun n _ => by grind⟩
theorem Rr.symm {s t : Nat → Rat} (h : Rr s t) : Rr t s := fun d hd => by
 obtain ⟨N, hN⟩ := h d hd
 exact ⟨N, fun n hn => ⟨(hN n hn).2, (hN n hn).1⟩⟩
theorem Rr.trans {s t u : Nat → Rat} (h : Rr s t) (k : Rr t u) : Rr s u := fun d hd => by
 obtain ⟨N, hN⟩ := h (d / 2) (half2 hd)
 obtain ⟨M, hM⟩ := k (d / 2) (half2 hd)
 refine ⟨N + M, fun n hn => ?_⟩
 have := hN n (by omega); have := hM n (by omega)
 grind
theorem Rr.of_eq {s t : Nat → Rat} (h : ∀ n, s n = t n) : Rr s t := by rw [show s = t from funext h]; exact Rr.refl t
theorem Rb.add {s t : Nat → Rat} (h : Rb s) (k : Rb t) : Rb (fun n => s n + t n) := by
 obtain ⟨A, hA, bA⟩ := h
 obtain ⟨B, hB, bB⟩ := k
 exact ⟨A + B, by grind, fun n => by have := bA n; have := bB n; constructor <;> grind⟩
theorem Rb.const (x : Rat) : Rb (fun _ => x) := ⟨ab x, ab_nn x, fun _ => by have := le_ab x; have h := le_ab (-x); rw [ab_neg] at h; constructor <;> grind⟩
theorem Rb.neg {s : Nat → Rat} (h : Rb s) : Rb (fun n => -s n) := by
 obtain ⟨A, hA, bA⟩ := h
 exact ⟨A, hA, fun n => by have := bA n; constructor <;> grind⟩
theorem Rb.of_nm {s : Nat → G} (h : Bd s) : Rb (fun n => (s n).re) ∧ Rb (fun n => (s n).im) := by
 obtain ⟨A, hA, bA⟩ := h
 constructor
 ·refine ⟨A, hA, fun n => ?_⟩
  have h1 := bA n; have h2 := ab_nn (s n).im
  have := ab_le.1 (show ab (s n).re ≤ A by unfold nm at h1; grind)
  constructor <;> grind
 ·refine ⟨A, hA, fun n => ?_⟩
  have h1 := bA n; have h2 := ab_nn (s n).re
  have := ab_le.1 (show ab (s n).im ≤ A by unfold nm at h1; grind)
  constructor <;> grind
theorem Rb.E {s : Nat → Rat} (h : Rb s) : Rb (fun n => E n (s n)) := by
 obtain ⟨B, hB, b⟩ := h.rl.E
 refine ⟨B, hB, fun n => ?_⟩
 have b1 := b n
 dsimp only at b1 ⊢
 rw [E_rl, nm_rl] at b1
 have := ab_le.1 b1
 constructor <;> grind
theorem Rr.mul {s t u v : Nat → Rat} (h : Rr s t) (k : Rr u v) (bu : Rb u) (bt : Rb t) : Rr (fun n => s n * u n) (fun n => t n * v n) := fun d hd => by
 obtain ⟨N, hN⟩ := (Nr.mul h.nr k.nr bu.rl bt.rl).re d hd
 refine ⟨N, fun n hn => ?_⟩
 have h1 := hN n hn
 dsimp only at h1 ⊢
 rw [rl_mul, rl_mul] at h1
 exact h1
theorem Rr.E {s t : Nat → Rat} (h : Rr s t) (bs : Rb s) (bt : Rb t) : Rr (fun n => E n (s n)) (fun n => E n (t n)) := fun d hd => by
 obtain ⟨N, hN⟩ := (Nr.E h.nr bs.rl bt.rl).re d hd
 refine ⟨N, fun n hn => ?_⟩
 have h1 := hN n hn
 dsimp only at h1 ⊢
 rw [E_rl, E_rl] at h1
 exact h1
theorem lam_rb : Rb lam := al_rb third
theorem e_lam {s : Nat → Rat} (h : Rb s) : ∀ k : Nat, Rb (fun n => s n + k * lam n) ∧ Rr (fun n => E n (s n + k * lam n)) (fun n => 2 ^ k * E n (s n))
 | 0 => by
  have e : (fun n => s n + ((0 : Nat) : Rat) * lam n) = s := funext fun n => by grind
  refine ⟨by rw [e]; exact h, Rr.of_eq fun n => ?_⟩
  rw [show s n + ((0 : Nat) : Rat) * lam n = s n by grind, Rat.pow_zero, Rat.one_mul]
 | k + 1 => by
  obtain ⟨b, r⟩ := e_lam h k
  have e : (fun n => s n + ((k + 1 : Nat) : Rat) * lam n) = (fun n => s n + k * lam n + lam n) := funext fun n => by
   rw [show ((k + 1 : Nat) : Rat) = k + 1 by grind]; grind
  have e2 : (fun n => MX.E n (s n + ((k + 1 : Nat) : Rat) * lam n)) = (fun n => MX.E n (s n + k * lam n + lam n)) := funext fun n => congrArg (MX.E n) (congrFun e n)
  refine ⟨by rw [e]; exact b.add lam_rb, ?_⟩
  rw [e2]
  refine Rr.trans (Rr.symm (e_add b lam_rb)) (Rr.trans (Rr.mul r e_two lam_rb.E ?_) (Rr.of_eq fun n => by rw [Rat.pow_succ]; grind))
  obtain ⟨B, hB, bb⟩ := h.E
  have t0 : (0 : Rat) ≤ 2 ^ k := by have := two_pow_ge k; have := nat_nn k; grind
  exact ⟨2 ^ k * B, Rat.mul_nonneg t0 hB, fun n => by
   have := bb n
   have a := Rat.mul_le_mul_of_nonneg_left this.1 t0
   have c := Rat.mul_le_mul_of_nonneg_left this.2 t0
   constructor <;> grind⟩
end Go.Proofs.YtjlbngjeekdfcaaGreatDoor.MX
