/-
 the sums of rows hold exp, the arcs, sine and cosine.
-/
import Derived.Test.YtjlbngjeekdfcaaGreatDoorMexp
import Derived.Test.YtjlbngjeekdfcaaGreatDoorRwm
namespace Go.Proofs.YtjlbngjeekdfcaaGreatDoor.MX
variable {P t : Int} {n q : Nat}
set_option linter.unusedVariables false
set_option linter.unusedSimpArgs false
open Rg
theorem ex_im (x : Rat) : ∀ k, ex (im x) (2 * k) = ⟨sgQ k * ecQ x k, 0⟩ ∧ ex (im x) (2 * k + 1) = ⟨0, sgQ k * esQ x k⟩ := by
 have odd : ∀ k, ex (im x) (2 * k) = ⟨sgQ k * ecQ x k, 0⟩ → ex (im x) (2 * k + 1) = ⟨0, sgQ k * esQ x k⟩ := fun k h => by
  show sc (1 / (((2 * k : Nat) : Rat) + 1)) (ex (im x) (2 * k) * im x) = _
  rw [h, show ((2 * k : Nat) : Rat) = 2 * k by grind]
  refine G.ext' ?_ ?_
  ·show _ * (_ * 0 - 0 * x) = (0 : Rat); grind
  ·show 1 / (2 * (k : Rat) + 1) * (sgQ k * ecQ x k * x + 0 * 0) = sgQ k * (ecQ x k * x / (2 * k + 1))
   simp only [Rat.div_def]; grind
 intro k
 induction k with
 | zero =>
  have h : ex (im x) (2 * 0) = ⟨sgQ 0 * ecQ x 0, 0⟩ := G.ext' (by show (1 : Rat) = 1 * 1; grind) rfl
  exact ⟨h, odd 0 h⟩
 | succ k ih =>
  have h : ex (im x) (2 * (k + 1)) = ⟨sgQ (k + 1) * ecQ x (k + 1), 0⟩ := by
   show sc (1 / (((2 * k + 1 : Nat) : Rat) + 1)) (ex (im x) (2 * k + 1) * im x) = _
   rw [ih.2, show ((2 * k + 1 : Nat) : Rat) + 1 = 2 * k + 2 by grind]
   refine G.ext' ?_ ?_
   ·show 1 / (2 * (k : Rat) + 2) * (0 * 0 - sgQ k * (ecQ x k * x / (2 * k + 1)) * x) = sgQ (k + 1) * (ecQ x k * (x * x) / (2 * k + 1) / (2 * k + 2))
    rw [sg_succ]
    simp only [Rat.div_def]; grind
   ·show _ * (0 * x + _ * 0) = (0 : Rat); grind
  exact ⟨h, odd (k + 1) h⟩
theorem E_im (x : Rat) : ∀ m, E (2 * m) (im x) = ⟨asQ (ecQ x) m, asQ (esQ x) m⟩
 | 0 => rfl
 | m + 1 => by
  show E (2 * m) (im x) + ex (im x) (2 * m) + ex (im x) (2 * m + 1) = _
  rw [E_im x m, (ex_im x m).1, (ex_im x m).2]
  exact G.ext' (by show asQ (ecQ x) m + sgQ m * ecQ x m + 0 = asQ (ecQ x) m + sgQ m * ecQ x m; grind) (by show asQ (esQ x) m + 0 + sgQ m * esQ x m = asQ (esQ x) m + sgQ m * esQ x m; grind)
def cs (n : Nat) (x : Rat) : Rat := (E n (im x)).re
def sn (n : Nat) (x : Rat) : Rat := (E n (im x)).im
theorem cs_even (x : Rat) (m : Nat) : cs (2 * m) x = asQ (ecQ x) m ∧ cs (2 * m + 1) x = asQ (ecQ x) (m + 1) ∧ sn (2 * m) x = asQ (esQ x) m ∧ sn (2 * m + 1) x = asQ (esQ x) m := by
 have h := E_im x m
 have h2 : E (2 * m + 1) (im x) = ⟨asQ (ecQ x) (m + 1), asQ (esQ x) m⟩ := by
  show E (2 * m) (im x) + ex (im x) (2 * m) = _
  rw [h, (ex_im x m).1]
  exact G.ext' rfl (by show asQ (esQ x) m + 0 = _; grind)
 unfold cs sn
 rw [h, h2]
 exact ⟨rfl, rfl, rfl, rfl⟩
theorem as_between {f : Nat → Rat} (h0 : ∀ k, 0 ≤ f k) {n : Nat} (h : ∀ k, 2 * n ≤ k → f (k + 1) ≤ f k) : ∀ j, (asQ f (2 * n) ≤ asQ f (2 * n + 2 * j) ∧ asQ f (2 * n) ≤ asQ f (2 * n + 2 * j + 1)) ∧ asQ f (2 * n + 2 * j + 1) ≤ asQ f (2 * n + 1) ∧ asQ f (2 * n + 2 * j + 2) ≤ asQ f (2 * n + 1) := by
 have sE : ∀ j, sgQ (2 * n + 2 * j) = 1 := fun j => by unfold sgQ; rw [if_pos (by omega)]
 have sO : ∀ j, sgQ (2 * n + 2 * j + 1) = -1 := fun j => by unfold sgQ; rw [if_neg (by omega)]
 have s1 : ∀ j, asQ f (2 * n + 2 * j + 1) = asQ f (2 * n + 2 * j) + f (2 * n + 2 * j) := fun j => by
  show asQ f (2 * n + 2 * j) + sgQ (2 * n + 2 * j) * f (2 * n + 2 * j) = _
  rw [sE]; grind
 have s2 : ∀ j, asQ f (2 * n + 2 * j + 2) = asQ f (2 * n + 2 * j + 1) - f (2 * n + 2 * j + 1) := fun j => by
  show asQ f (2 * n + 2 * j + 1) + sgQ (2 * n + 2 * j + 1) * f (2 * n + 2 * j + 1) = _
  rw [sO]; grind
 intro j
 induction j with
 | zero =>
  have a := h0 (2 * n); have b := h0 (2 * n + 1)
  have c := s1 0; have d := s2 0
  simp only [Nat.mul_zero, Nat.add_zero] at c d ⊢
  refine ⟨⟨Rat.le_refl, by grind⟩, Rat.le_refl, by grind⟩
 | succ j ih =>
  have a := h0 (2 * n + 2 * (j + 1)); have b := h0 (2 * n + 2 * (j + 1) + 1)
  have c := s1 (j + 1); have d := s2 (j + 1)
  have c' := s1 j; have d' := s2 j
  have e := h (2 * n + 2 * j) (by omega); have e' := h (2 * n + 2 * j + 1) (by omega)
  have i1 : 2 * n + 2 * (j + 1) = 2 * n + 2 * j + 2 := by omega
  rw [i1] at a b c d ⊢
  refine ⟨⟨by grind, by grind⟩, by grind, by grind⟩
theorem es_step2 {x : Rat} (hx : 0 ≤ x) (hx1 : x ≤ 2) (k : Nat) : esQ x (k + 1) ≤ esQ x k := by
 have hk := c0Q k
 have h0 := es_nonneg hx k
 have h1 : x * x ≤ 4 := by
  have := mul_le2 hx (show (0 : Rat) ≤ 2 by grind) hx1 hx1
  grind
 have h2 := Rat.mul_le_mul_of_nonneg_left h1 h0
 have h3 := Rat.mul_nonneg h0 hk
 have h4 := Rat.mul_nonneg h3 hk
 rw [es_succ]
 refine dv_le (by grind) (dv_le (by grind) ?_)
 grind
theorem ec_step2 {x : Rat} (hx : 0 ≤ x) (hx1 : x ≤ 2) (k : Nat) (h1 : 1 ≤ k) : ecQ x (k + 1) ≤ ecQ x k := by
 have hk := c0Q k
 have hk1 : (1 : Rat) ≤ (k : Rat) := by exact_mod_cast h1
 have h0 := ec_nonneg hx k
 have h1 : x * x ≤ 4 := by
  have := mul_le2 hx (show (0 : Rat) ≤ 2 by grind) hx1 hx1
  grind
 have h2 := Rat.mul_le_mul_of_nonneg_left h1 h0
 have h3 := Rat.mul_nonneg h0 hk
 have h4 := Rat.mul_nonneg h3 hk
 have h5 := Rat.mul_le_mul_of_nonneg_left hk1 h0
 simp only [ecQ]
 refine dv_le (by grind) (dv_le (by grind) ?_)
 grind
theorem sn_in (h0 : 0 ≤ t) (h : t ≤ 2 * twP q) (N : Nat) (hN : 4 * n + 2 ≤ N) : ((rwLo 3 t q n : Int) : Rat) ≤ (twP q : Int) * sn N (ptQ t q) ∧ (twP q : Int) * sn N (ptQ t q) ≤ ((rwHi 3 t q n : Int) : Rat) := by
 have hp : (0 : Rat) < (twP q : Int) := by exact_mod_cast tw_pos q
 have hx := pt_nonneg (q := q) h0
 have hx2 : ptQ t q ≤ 2 := by
  have h1 : (t : Rat) ≤ 2 * (twP q : Int) := by exact_mod_cast h
  exact dv_le hp h1
 have l1 := alt_lo (fun k => (sn_true t q k).1) (fun k => (sn_true t q k).2) (2 * n)
 have l2 := alt_hi (fun k => (sn_true t q k).1) (fun k => (sn_true t q k).2) (2 * n + 1)
 have key : ∀ m, 2 * n + 1 ≤ m → asQ (esQ (ptQ t q)) (2 * n) ≤ asQ (esQ (ptQ t q)) m ∧ asQ (esQ (ptQ t q)) m ≤ asQ (esQ (ptQ t q)) (2 * n + 1) := fun m hm => by
  have b := as_between (es_nonneg hx) (n := n) (fun k _ => es_step2 hx hx2 k)
  rcases Nat.mod_two_eq_zero_or_one m with e | e
  ·obtain ⟨j, rfl⟩ : ∃ j, m = 2 * n + 2 * j + 2 := ⟨(m - 2 * n - 2) / 2, by omega⟩
   have b1 := b j; have b2 := b (j + 1)
   rw [show 2 * n + 2 * (j + 1) = 2 * n + 2 * j + 2 by omega] at b2
   exact ⟨b2.1.1, b1.2.2⟩
  ·obtain ⟨j, rfl⟩ : ∃ j, m = 2 * n + 2 * j + 1 := ⟨(m - 2 * n - 1) / 2, by omega⟩
   exact ⟨(b j).1.2, (b j).2.1⟩
 have fin : ∀ m, 2 * n + 1 ≤ m → ((rwLo 3 t q n : Int) : Rat) ≤ (twP q : Int) * asQ (esQ (ptQ t q)) m ∧ (twP q : Int) * asQ (esQ (ptQ t q)) m ≤ ((rwHi 3 t q n : Int) : Rat) := fun m hm => by
  have k := key m hm
  have a := Rat.mul_le_mul_of_nonneg_left k.1 (show 0 ≤ ((twP q : Int) : Rat) by grind)
  have b := Rat.mul_le_mul_of_nonneg_left k.2 (show 0 ≤ ((twP q : Int) : Rat) by grind)
  exact ⟨Rat.le_trans l1 a, Rat.le_trans b l2⟩
 rcases Nat.mod_two_eq_zero_or_one N with e | e
 ·obtain ⟨m, rfl⟩ : ∃ m, N = 2 * m := ⟨N / 2, by omega⟩
  rw [(cs_even _ m).2.2.1]; exact fin m (by omega)
 ·obtain ⟨m, rfl⟩ : ∃ m, N = 2 * m + 1 := ⟨N / 2, by omega⟩
  rw [(cs_even _ m).2.2.2]; exact fin m (by omega)
theorem cs_in (h0 : 0 ≤ t) (h : t ≤ 2 * twP q) (hn : 1 ≤ n) (N : Nat) (hN : 4 * n + 2 ≤ N) : ((rwLo 4 t q n : Int) : Rat) ≤ (twP q : Int) * cs N (ptQ t q) ∧ (twP q : Int) * cs N (ptQ t q) ≤ ((rwHi 4 t q n : Int) : Rat) := by
 have hp : (0 : Rat) < (twP q : Int) := by exact_mod_cast tw_pos q
 have hx := pt_nonneg (q := q) h0
 have hx2 : ptQ t q ≤ 2 := by
  have h1 : (t : Rat) ≤ 2 * (twP q : Int) := by exact_mod_cast h
  exact dv_le hp h1
 have l1 := alt_lo (fun k => (cs_true t q k).1) (fun k => (cs_true t q k).2) (2 * n)
 have l2 := alt_hi (fun k => (cs_true t q k).1) (fun k => (cs_true t q k).2) (2 * n + 1)
 have key : ∀ m, 2 * n + 1 ≤ m → asQ (ecQ (ptQ t q)) (2 * n) ≤ asQ (ecQ (ptQ t q)) m ∧ asQ (ecQ (ptQ t q)) m ≤ asQ (ecQ (ptQ t q)) (2 * n + 1) := fun m hm => by
  have b := as_between (ec_nonneg hx) (n := n) (fun k hk => ec_step2 hx hx2 k (by omega))
  rcases Nat.mod_two_eq_zero_or_one m with e | e
  ·obtain ⟨j, rfl⟩ : ∃ j, m = 2 * n + 2 * j + 2 := ⟨(m - 2 * n - 2) / 2, by omega⟩
   have b1 := b j; have b2 := b (j + 1)
   rw [show 2 * n + 2 * (j + 1) = 2 * n + 2 * j + 2 by omega] at b2
   exact ⟨b2.1.1, b1.2.2⟩
  ·obtain ⟨j, rfl⟩ : ∃ j, m = 2 * n + 2 * j + 1 := ⟨(m - 2 * n - 1) / 2, by omega⟩
   exact ⟨(b j).1.2, (b j).2.1⟩
 have fin : ∀ m, 2 * n + 1 ≤ m → ((rwLo 4 t q n : Int) : Rat) ≤ (twP q : Int) * asQ (ecQ (ptQ t q)) m ∧ (twP q : Int) * asQ (ecQ (ptQ t q)) m ≤ ((rwHi 4 t q n : Int) : Rat) := fun m hm => by
  have k := key m hm
  have a := Rat.mul_le_mul_of_nonneg_left k.1 (show 0 ≤ ((twP q : Int) : Rat) by grind)
  have b := Rat.mul_le_mul_of_nonneg_left k.2 (show 0 ≤ ((twP q : Int) : Rat) by grind)
  exact ⟨Rat.le_trans l1 a, Rat.le_trans b l2⟩
 rcases Nat.mod_two_eq_zero_or_one N with e | e
 ·obtain ⟨m, rfl⟩ : ∃ m, N = 2 * m := ⟨N / 2, by omega⟩
  rw [(cs_even _ m).1]; exact fin m (by omega)
 ·obtain ⟨m, rfl⟩ : ∃ m, N = 2 * m + 1 := ⟨N / 2, by omega⟩
  rw [(cs_even _ m).2.1]; exact fin (m + 1) (by omega)
theorem ex_true (h0 : 0 ≤ t) (q : Nat) : ∀ k, ((exU t q k : Int) : Rat) ≤ (twP q : Int) * ex (ptQ t q) k ∧ (twP q : Int) * ex (ptQ t q) k ≤ ((exV t q k : Int) : Rat)
 | 0 => by
  show ((twP q : Int) : Rat) ≤ _ * 1 ∧ _ * 1 ≤ ((twP q : Int) : Rat)
  constructor <;> grind
 | k + 1 => by
  obtain ⟨i1, i2⟩ := ex_true h0 q k
  have hp : (0 : Rat) < (twP q : Int) := by exact_mod_cast tw_pos q
  have hk := c0Q k
  have ht := pt_mul t q
  have hx := pt_nonneg (q := q) h0
  have d1 : ((exU t q (k + 1) : Int) : Rat) * (((k : Rat) + 1) * (twP q : Int)) ≤ (exU t q k : Int) * (t : Rat) := by
   have := dv_mul_le (exU t q k * t) (c := ((k : Int) + 1) * twP q) (ex_pos q k)
   exact_mod_cast this
  have d2 : ((exV t q k : Int) : Rat) * (t : Rat) ≤ (exV t q (k + 1) : Int) * (((k : Rat) + 1) * (twP q : Int)) := by
   have := le_up_mul (exV t q k * t) (c := ((k : Int) + 1) * twP q) (ex_pos q k)
   exact_mod_cast this
  rw [ht] at d1 d2
  rw [exR_succ]
  generalize ptQ t q = x at *
  generalize ((exU t q (k + 1) : Int) : Rat) = U' at *
  generalize ((exU t q k : Int) : Rat) = U at *
  generalize ((exV t q (k + 1) : Int) : Rat) = V' at *
  generalize ((exV t q k : Int) : Rat) = V at *
  generalize ((twP q : Int) : Rat) = P at *
  generalize ex x k = e at *
  have e1 : ((k : Rat) + 1) * (1 / ((k : Rat) + 1)) = 1 := by grind
  have hi : 0 ≤ 1 / ((k : Rat) + 1) := inv_nn k
  generalize 1 / ((k : Rat) + 1) = v at *
  -- without P
  have c1 : U' * ((k : Rat) + 1) ≤ U * x := by
   have a : P * (U' * ((k : Rat) + 1)) ≤ P * (U * x) := by grind
   rcases (show U' * ((k : Rat) + 1) ≤ U * x ∨ U * x < U' * ((k : Rat) + 1) by grind) with b | b
   ·exact b
   ·have := Rat.mul_lt_mul_of_pos_left b hp; grind
  have c2 : V * x ≤ V' * ((k : Rat) + 1) := by
   have a : P * (V * x) ≤ P * (V' * ((k : Rat) + 1)) := by grind
   rcases (show V * x ≤ V' * ((k : Rat) + 1) ∨ V' * ((k : Rat) + 1) < V * x by grind) with b | b
   ·exact b
   ·have := Rat.mul_lt_mul_of_pos_left b hp; grind
  have f1 := Rat.mul_le_mul_of_nonneg_right i1 hx
  have f2 := Rat.mul_le_mul_of_nonneg_right i2 hx
  have g1 := Rat.mul_le_mul_of_nonneg_right (Rat.le_trans c1 f1) hi
  have g2 := Rat.mul_le_mul_of_nonneg_right (Rat.le_trans f2 c2) hi
  rw [show U' * ((k : Rat) + 1) * v = U' by rw [Rat.mul_assoc, e1, Rat.mul_one]] at g1
  rw [show V' * ((k : Rat) + 1) * v = V' by rw [Rat.mul_assoc, e1, Rat.mul_one]] at g2
  constructor <;> grind
theorem sum_lo {f : Nat → Int} {e : Nat → Rat} (hf : ∀ k, (f k : Rat) ≤ P * e k) : ∀ n, ((sumI f n : Int) : Rat) ≤ P * S e n
 | 0 => by show ((0 : Int) : Rat) ≤ P * 0; grind
 | n + 1 => by
  have ih := sum_lo hf n
  have h := hf n
  show ((sumI f n + f n : Int) : Rat) ≤ P * (S e n + e n)
  rw [Rat.intCast_add]; grind
theorem sum_hi {f : Nat → Int} {e : Nat → Rat} (hf : ∀ k, P * e k ≤ (f k : Rat)) : ∀ n, P * S e n ≤ ((sumI f n : Int) : Rat)
 | 0 => by show P * 0 ≤ ((0 : Int) : Rat); grind
 | n + 1 => by
  have ih := sum_hi hf n
  have h := hf n
  show P * (S e n + e n) ≤ ((sumI f n + f n : Int) : Rat)
  rw [Rat.intCast_add]; grind
theorem ex_in (h0 : 0 ≤ t) (h : t ≤ twP q) (hn : 1 ≤ n) (N : Nat) (hN : n ≤ N) : ((rwLo 0 t q n : Int) : Rat) ≤ (twP q : Int) * E N (ptQ t q) ∧ (twP q : Int) * E N (ptQ t q) ≤ ((rwHi 0 t q n : Int) : Rat) := by
 have hp : (0 : Rat) < (twP q : Int) := by exact_mod_cast tw_pos q
 have hx := pt_nonneg (q := q) h0
 have hx1 := pt_le (q := q) h
 have l1 := sum_lo (fun k => (ex_true h0 q k).1) n
 have l2 := sum_hi (fun k => (ex_true h0 q k).2) n
 have l3 := (ex_true h0 q n).2
 have hn1 : (1 : Rat) ≤ (n : Rat) := by exact_mod_cast hn
 obtain ⟨d, rfl⟩ : ∃ d, N = n + d := ⟨N - n, by omega⟩
 have t1 := E_tail hx (n := n) (by grind) d
 have t2 : E n (ptQ t q) ≤ E (n + d) (ptQ t q) := S_mono (ex_nn hx) (by omega)
 have t3 := ex_nn hx (n + d)
 have a := Rat.mul_le_mul_of_nonneg_left t2 (show 0 ≤ ((twP q : Int) : Rat) by grind)
 have b := Rat.mul_le_mul_of_nonneg_left (show E (n + d) (ptQ t q) ≤ E n (ptQ t q) + 2 * ex (ptQ t q) n by grind) (show 0 ≤ ((twP q : Int) : Rat) by grind)
 have l2' : (twP q : Int) * E n (ptQ t q) ≤ ((sumI (exV t q) n : Int) : Rat) := l2
 refine ⟨Rat.le_trans l1 a, ?_⟩
 show _ ≤ ((sumI (exV t q) n + 2 * exV t q n : Int) : Rat)
 rw [Rat.intCast_add, Rat.intCast_mul, Rat.intCast_ofNat]
 grind
def tq (x : Rat) (k : Nat) : Rat := pw x (2 * k + 1) / (2 * k + 1)
theorem ta_true0 (h0 : 0 ≤ t) (q : Nat) : ∀ k, ((taU t q k : Int) : Rat) ≤ (twP q : Int) * pw (ptQ t q) (2 * k + 1) ∧ (twP q : Int) * pw (ptQ t q) (2 * k + 1) ≤ ((taV t q k : Int) : Rat)
 | 0 => by
  have ht := pt_mul t q
  show (t : Rat) ≤ _ * (1 * ptQ t q) ∧ _ * (1 * ptQ t q) ≤ (t : Rat)
  constructor <;> grind
 | k + 1 => by
  obtain ⟨i1, i2⟩ := ta_true0 h0 q k
  have hp : (0 : Rat) < (twP q : Int) := by exact_mod_cast tw_pos q
  have ht := pt_mul t q
  have hx := pt_nonneg (q := q) h0
  have d1 : ((taU t q (k + 1) : Int) : Rat) * ((twP q : Int) * (twP q : Int)) ≤ (taU t q k : Int) * ((t : Rat) * t) := by
   have := dv_mul_le (taU t q k * (t * t)) (c := twP q * twP q) (ta_pos q)
   exact_mod_cast this
  have d2 : ((taV t q k : Int) : Rat) * ((t : Rat) * t) ≤ (taV t q (k + 1) : Int) * ((twP q : Int) * (twP q : Int)) := by
   have := le_up_mul (taV t q k * (t * t)) (c := twP q * twP q) (ta_pos q)
   exact_mod_cast this
  rw [ht] at d1 d2
  rw [show 2 * (k + 1) + 1 = 2 * k + 1 + 1 + 1 by omega]
  show _ ≤ _ * (pw (ptQ t q) (2 * k + 1) * ptQ t q * ptQ t q) ∧ _ * (pw (ptQ t q) (2 * k + 1) * ptQ t q * ptQ t q) ≤ _
  generalize ptQ t q = x at *
  generalize ((taU t q (k + 1) : Int) : Rat) = U' at *
  generalize ((taU t q k : Int) : Rat) = U at *
  generalize ((taV t q (k + 1) : Int) : Rat) = V' at *
  generalize ((taV t q k : Int) : Rat) = V at *
  generalize ((twP q : Int) : Rat) = P at *
  generalize pw x (2 * k + 1) = e at *
  have hPP := Rat.mul_pos hp hp
  have hxx := Rat.mul_nonneg hx hx
  have c1 : U' ≤ U * (x * x) := by
   have a : (P * P) * U' ≤ (P * P) * (U * (x * x)) := by grind
   rcases (show U' ≤ U * (x * x) ∨ U * (x * x) < U' by grind) with b | b
   ·exact b
   ·have := Rat.mul_lt_mul_of_pos_left b hPP; grind
  have c2 : V * (x * x) ≤ V' := by
   have a : (P * P) * (V * (x * x)) ≤ (P * P) * V' := by grind
   rcases (show V * (x * x) ≤ V' ∨ V' < V * (x * x) by grind) with b | b
   ·exact b
   ·have := Rat.mul_lt_mul_of_pos_left b hPP; grind
  have f1 := Rat.mul_le_mul_of_nonneg_right i1 hxx
  have f2 := Rat.mul_le_mul_of_nonneg_right i2 hxx
  constructor <;> grind
theorem ta_true (h0 : 0 ≤ t) (q k : Nat) : ((taC t q k : Int) : Rat) ≤ (twP q : Int) * tq (ptQ t q) k ∧ (twP q : Int) * tq (ptQ t q) k ≤ ((taD t q k : Int) : Rat) := by
 obtain ⟨i1, i2⟩ := ta_true0 h0 q k
 have hk := c0Q k
 have d1 : ((taC t q k : Int) : Rat) * (2 * (k : Rat) + 1) ≤ (taU t q k : Int) := by
  have := dv_mul_le (taU t q k) (c := 2 * (k : Int) + 1) (by omega)
  exact_mod_cast this
 have d2 : ((taV t q k : Int) : Rat) ≤ (taD t q k : Int) * (2 * (k : Rat) + 1) := by
  have := le_up_mul (taV t q k) (c := 2 * (k : Int) + 1) (by omega)
  exact_mod_cast this
 have e : tq (ptQ t q) k * (2 * (k : Rat) + 1) = pw (ptQ t q) (2 * k + 1) := by
  unfold tq
  rw [Rat.div_def, Rat.mul_assoc, Rat.inv_mul_cancel _ (by grind), Rat.mul_one]
 rw [← e] at i1 i2
 generalize tq (ptQ t q) k = v at *
 generalize ((taC t q k : Int) : Rat) = U' at *
 generalize ((taD t q k : Int) : Rat) = V' at *
 generalize ((twP q : Int) : Rat) = P at *
 have hk1 : (0 : Rat) < 2 * (k : Rat) + 1 := by grind
 constructor
 ·rcases (show U' ≤ P * v ∨ P * v < U' by grind) with b | b
  ·exact b
  ·have := Rat.mul_lt_mul_of_pos_left b hk1; grind
 ·rcases (show P * v ≤ V' ∨ V' < P * v by grind) with b | b
  ·exact b
  ·have := Rat.mul_lt_mul_of_pos_left b hk1; grind
theorem at2_odd (k : Nat) : at2 (2 * k + 1) = 2 / (2 * (k : Rat) + 1) := by
 unfold at2
 rw [if_pos (by omega), show ((2 * k + 1 : Nat) : Rat) = 2 * k + 1 by grind]
theorem at2_even (k : Nat) : at2 (2 * k) = 0 := by unfold at2; rw [if_neg (by omega)]
theorem al_even (x : Rat) : ∀ m, al (2 * m) x = 2 * S (tq x) m ∧ al (2 * m + 1) x = 2 * S (tq x) m := by
 have st : ∀ m, al (2 * m) x = 2 * S (tq x) m → al (2 * m + 1) x = 2 * S (tq x) m := fun m h => by
  show al (2 * m) x + at2 (2 * m) * _ = _
  rw [h, at2_even]; grind
 intro m
 induction m with
 | zero => have h : al (2 * 0) x = 2 * S (tq x) 0 := by show (0 : Rat) = 2 * 0; grind
           exact ⟨h, st 0 h⟩
 | succ m ih =>
  have h : al (2 * (m + 1)) x = 2 * S (tq x) (m + 1) := by
   show al (2 * m + 1) x + at2 (2 * m + 1) * pw x (2 * m + 1) = 2 * (S (tq x) m + tq x m)
   rw [ih.2, at2_odd]
   unfold tq
   simp only [Rat.div_def]; grind
  exact ⟨h, st (m + 1) h⟩
theorem pw_im (x : Rat) : ∀ k, pw (im x) (2 * k) = ⟨sgQ k * pw x (2 * k), 0⟩ ∧ pw (im x) (2 * k + 1) = ⟨0, sgQ k * pw x (2 * k + 1)⟩ := by
 have odd : ∀ k, pw (im x) (2 * k) = ⟨sgQ k * pw x (2 * k), 0⟩ → pw (im x) (2 * k + 1) = ⟨0, sgQ k * pw x (2 * k + 1)⟩ := fun k h => by
  show pw (im x) (2 * k) * im x = _
  rw [h]
  exact G.ext' (by show _ * 0 - 0 * x = (0 : Rat); grind) (by show sgQ k * pw x (2 * k) * x + 0 * 0 = sgQ k * (pw x (2 * k) * x); grind)
 intro k
 induction k with
 | zero => have h : pw (im x) (2 * 0) = ⟨sgQ 0 * pw x (2 * 0), 0⟩ := G.ext' (by show (1 : Rat) = 1 * 1; grind) rfl
           exact ⟨h, odd 0 h⟩
 | succ k ih =>
  have h : pw (im x) (2 * (k + 1)) = ⟨sgQ (k + 1) * pw x (2 * (k + 1)), 0⟩ := by
   show pw (im x) (2 * k + 1) * im x = _
   rw [ih.2, sg_succ]
   exact G.ext' (by show 0 * 0 - sgQ k * pw x (2 * k + 1) * x = -sgQ k * (pw x (2 * k + 1) * x); grind) (by show 0 * x + _ * 0 = (0 : Rat); grind)
  exact ⟨h, odd (k + 1) h⟩
theorem al_im (x : Rat) : ∀ m, al (2 * m) (im x) = im (2 * asQ (tq x) m) ∧ al (2 * m + 1) (im x) = im (2 * asQ (tq x) m) := by
 have st : ∀ m, al (2 * m) (im x) = im (2 * asQ (tq x) m) → al (2 * m + 1) (im x) = im (2 * asQ (tq x) m) := fun m h => by
  show al (2 * m) (im x) + sc (at2 (2 * m)) _ = _
  rw [h, at2_even, s0, ao]
 intro m
 induction m with
 | zero => have h : al (2 * 0) (im x) = im (2 * asQ (tq x) 0) := G.ext' rfl (by show (0 : Rat) = 2 * 0; grind)
           exact ⟨h, st 0 h⟩
 | succ m ih =>
  have h : al (2 * (m + 1)) (im x) = im (2 * asQ (tq x) (m + 1)) := by
   show al (2 * m + 1) (im x) + sc (at2 (2 * m + 1)) (pw (im x) (2 * m + 1)) = _
   rw [ih.2, at2_odd, (pw_im x m).2]
   refine G.ext' (by show 0 + _ * 0 = (0 : Rat); grind) ?_
   show 2 * asQ (tq x) m + 2 / (2 * (m : Rat) + 1) * (sgQ m * pw x (2 * m + 1)) = 2 * (asQ (tq x) m + sgQ m * (pw x (2 * m + 1) / (2 * m + 1)))
   simp only [Rat.div_def]; grind
  exact ⟨h, st (m + 1) h⟩
theorem pw_mono {x y : Rat} (h : 0 ≤ x) (k : x ≤ y) : ∀ n, pw x n ≤ pw y n
 | 0 => Rat.le_refl
 | n + 1 => mul_le2 (pw_nn h n) (Rat.le_trans h k) (pw_mono h k n) k
theorem inv_odd (k : Nat) : 0 ≤ (2 * (k : Rat) + 1)⁻¹ := by have := c0Q k; have := Rat.inv_pos.2 (show 0 < 2 * (k : Rat) + 1 by grind); grind
theorem tq_nn {x : Rat} (h : 0 ≤ x) (k : Nat) : 0 ≤ tq x k := by unfold tq; rw [Rat.div_def]; exact Rat.mul_nonneg (pw_nn h _) (inv_odd k)
theorem tq_mono {x y : Rat} (h : 0 ≤ x) (l : x ≤ y) (k : Nat) : tq x k ≤ tq y k := by
 unfold tq; rw [Rat.div_def, Rat.div_def]; exact Rat.mul_le_mul_of_nonneg_right (pw_mono h l _) (inv_odd k)
theorem inv_step (k : Nat) : (2 * ((k + 1 : Nat) : Rat) + 1)⁻¹ ≤ (2 * (k : Rat) + 1)⁻¹ := by
 have hk := c0Q k
 have e1 : (2 * (k : Rat) + 1) * (2 * (k : Rat) + 1)⁻¹ = 1 := Rat.mul_inv_cancel _ (by grind)
 have e2 : (2 * ((k + 1 : Nat) : Rat) + 1) * (2 * ((k + 1 : Nat) : Rat) + 1)⁻¹ = 1 := Rat.mul_inv_cancel _ (by have := c0Q (k + 1); grind)
 have i1 := inv_odd k
 have i2 := inv_odd (k + 1)
 rw [show ((k + 1 : Nat) : Rat) = (k : Rat) + 1 by grind] at *
 generalize (2 * (k : Rat) + 1)⁻¹ = u at *
 generalize (2 * ((k : Rat) + 1) + 1)⁻¹ = v at *
 rcases (show v ≤ u ∨ u < v by grind) with h | h
 ·exact h
 ·have := Rat.mul_lt_mul_of_pos_left h (show (0 : Rat) < 2 * (k : Rat) + 1 by grind)
  grind
theorem tq_fall {x c : Rat} (h : 0 ≤ x) (hc : x * x ≤ c) (k : Nat) : tq x (k + 1) ≤ c * tq x k := by
 have p := pw_nn h (2 * k + 1)
 have e : pw x (2 * (k + 1) + 1) = pw x (2 * k + 1) * (x * x) := by
  rw [show 2 * (k + 1) + 1 = 2 * k + 1 + 1 + 1 by omega]
  show pw x (2 * k + 1) * x * x = _
  rw [Rat.mul_assoc]
 unfold tq
 rw [Rat.div_def, Rat.div_def, e]
 have a := Rat.mul_le_mul_of_nonneg_left hc p
 have hcc : 0 ≤ c := Rat.le_trans (Rat.mul_nonneg h h) hc
 have b := mul_le2 (Rat.mul_nonneg p (Rat.mul_nonneg h h)) (inv_odd k) a (inv_step k)
 grind
theorem S_tail {f : Nat → Rat} (h0 : ∀ k, 0 ≤ f k) (h : ∀ k, 2 * f (k + 1) ≤ f k) (n : Nat) : ∀ d, S f (n + d) + 2 * f (n + d) ≤ S f n + 2 * f n
 | 0 => Rat.le_refl
 | d + 1 => by
  have ih := S_tail h0 h n d
  have := h (n + d)
  show S f (n + d) + f (n + d) + 2 * f (n + d + 1) ≤ _
  grind
theorem at_in (h0 : 0 ≤ t) (h : 2 * t ≤ twP q) (N : Nat) (hN : 2 * n ≤ N) : 2 * ((rwLo 1 t q n : Int) : Rat) ≤ (twP q : Int) * al N (ptQ t q) ∧ (twP q : Int) * al N (ptQ t q) ≤ 2 * ((rwHi 1 t q n : Int) : Rat) := by
 have hp : (0 : Rat) < (twP q : Int) := by exact_mod_cast tw_pos q
 have hx := pt_nonneg (q := q) h0
 have hx2 : ptQ t q ≤ 1 / 2 := by
  have h1 : 2 * (t : Rat) ≤ (twP q : Int) := by exact_mod_cast h
  exact dv_le hp (by grind)
 have hxx : ptQ t q * ptQ t q ≤ 1 / 4 := by have := mul_le2 hx (show (0 : Rat) ≤ 1 / 2 by grind) hx2 hx2; grind
 have l1 := sum_lo (fun k => (ta_true h0 q k).1) n
 have l2 := sum_hi (fun k => (ta_true h0 q k).2) n
 have l3 := (ta_true h0 q n).2
 have fin : ∀ m, n ≤ m → 2 * ((rwLo 1 t q n : Int) : Rat) ≤ (twP q : Int) * (2 * S (tq (ptQ t q)) m) ∧ (twP q : Int) * (2 * S (tq (ptQ t q)) m) ≤ 2 * ((rwHi 1 t q n : Int) : Rat) := fun m hm => by
  obtain ⟨d, rfl⟩ : ∃ d, m = n + d := ⟨m - n, by omega⟩
  have t1 := S_tail (tq_nn hx) (fun k => by have := tq_fall hx hxx k; have := tq_nn hx k; grind) n d
  have t2 := S_mono (tq_nn hx) (show n ≤ n + d by omega)
  have t3 := tq_nn hx (n + d)
  have a := Rat.mul_le_mul_of_nonneg_left t2 (show 0 ≤ ((twP q : Int) : Rat) by grind)
  have b := Rat.mul_le_mul_of_nonneg_left (show S (tq (ptQ t q)) (n + d) ≤ S (tq (ptQ t q)) n + 2 * tq (ptQ t q) n by grind) (show 0 ≤ ((twP q : Int) : Rat) by grind)
  constructor
  ·have l1' : ((rwLo 1 t q n : Int) : Rat) ≤ (twP q : Int) * S (tq (ptQ t q)) n := l1
   grind
  ·have e : ((rwHi 1 t q n : Int) : Rat) = ((sumI (taD t q) n : Int) : Rat) + 2 * ((taD t q n : Int) : Rat) := by
    show ((sumI (taD t q) n + 2 * taD t q n : Int) : Rat) = _
    rw [Rat.intCast_add, Rat.intCast_mul, Rat.intCast_ofNat]
   rw [e]; grind
 rcases Nat.mod_two_eq_zero_or_one N with e | e
 ·obtain ⟨m, rfl⟩ : ∃ m, N = 2 * m := ⟨N / 2, by omega⟩
  rw [(al_even _ m).1]; exact fin m (by omega)
 ·obtain ⟨m, rfl⟩ : ∃ m, N = 2 * m + 1 := ⟨N / 2, by omega⟩
  rw [(al_even _ m).2]; exact fin m (by omega)
theorem ar_in (h0 : 0 ≤ t) (h : t ≤ twP q) (m : Nat) (hm : 2 * n + 1 ≤ m) : ((rwLo 2 t q n : Int) : Rat) ≤ (twP q : Int) * asQ (tq (ptQ t q)) m ∧ (twP q : Int) * asQ (tq (ptQ t q)) m ≤ ((rwHi 2 t q n : Int) : Rat) := by
 have hp : (0 : Rat) < (twP q : Int) := by exact_mod_cast tw_pos q
 have hx := pt_nonneg (q := q) h0
 have hx1 := pt_le (q := q) h
 have hxx : ptQ t q * ptQ t q ≤ 1 := by have := mul_le2 hx (show (0 : Rat) ≤ 1 by grind) hx1 hx1; grind
 have l1 := alt_lo (fun k => (ta_true h0 q k).1) (fun k => (ta_true h0 q k).2) (2 * n)
 have l2 := alt_hi (fun k => (ta_true h0 q k).1) (fun k => (ta_true h0 q k).2) (2 * n + 1)
 have b := as_between (tq_nn hx) (n := n) (fun k _ => by have := tq_fall hx hxx k; grind)
 have key : asQ (tq (ptQ t q)) (2 * n) ≤ asQ (tq (ptQ t q)) m ∧ asQ (tq (ptQ t q)) m ≤ asQ (tq (ptQ t q)) (2 * n + 1) := by
  rcases Nat.mod_two_eq_zero_or_one m with e | e
  ·obtain ⟨j, rfl⟩ : ∃ j, m = 2 * n + 2 * j + 2 := ⟨(m - 2 * n - 2) / 2, by omega⟩
   have b1 := b j; have b2 := b (j + 1)
   rw [show 2 * n + 2 * (j + 1) = 2 * n + 2 * j + 2 by omega] at b2
   exact ⟨b2.1.1, b1.2.2⟩
  ·obtain ⟨j, rfl⟩ : ∃ j, m = 2 * n + 2 * j + 1 := ⟨(m - 2 * n - 1) / 2, by omega⟩
   exact ⟨(b j).1.2, (b j).2.1⟩
 have a := Rat.mul_le_mul_of_nonneg_left key.1 (show 0 ≤ ((twP q : Int) : Rat) by grind)
 have c := Rat.mul_le_mul_of_nonneg_left key.2 (show 0 ≤ ((twP q : Int) : Rat) by grind)
 exact ⟨Rat.le_trans l1 a, Rat.le_trans c l2⟩
theorem pw_diff {x y : Rat} (h : 0 ≤ x) (l : x ≤ y) (k : Nat) : (y - x) * pw x k ≤ pw y (k + 1) - pw x (k + 1) := by
 have p := pw_nn h k
 have a := pw_mono h l k
 have hy : 0 ≤ y := by grind
 have b := Rat.mul_le_mul_of_nonneg_right a hy
 show _ ≤ pw y k * y - pw x k * x
 grind
theorem tq_dd {x y : Rat} (h : 0 ≤ x) (l : x ≤ y) (hy : y ≤ 1 / 2) (k : Nat) : tq y (k + 1) - tq x (k + 1) ≤ tq y k - tq x k := by
 have hy0 : 0 ≤ y := by grind
 have d := pw_diff h l (2 * k)
 have px := pw_nn h (2 * k)
 have hd : 0 ≤ pw y (2 * k + 1) - pw x (2 * k + 1) := by have := pw_mono h l (2 * k + 1); grind
 have yy : y * y ≤ 1 / 4 := by have := mul_le2 hy0 (show (0 : Rat) ≤ 1 / 2 by grind) hy hy; grind
 have ey : pw y (2 * (k + 1) + 1) = pw y (2 * k + 1) * (y * y) := by
  rw [show 2 * (k + 1) + 1 = 2 * k + 1 + 1 + 1 by omega]
  show pw y (2 * k + 1) * y * y = _
  rw [Rat.mul_assoc]
 have ex' : pw x (2 * (k + 1) + 1) = pw x (2 * k + 1) * (x * x) := by
  rw [show 2 * (k + 1) + 1 = 2 * k + 1 + 1 + 1 by omega]
  show pw x (2 * k + 1) * x * x = _
  rw [Rat.mul_assoc]
 have e1 : pw x (2 * k + 1) = pw x (2 * k) * x := rfl
 -- the next difference is at most the one before
 have main : pw y (2 * (k + 1) + 1) - pw x (2 * (k + 1) + 1) ≤ pw y (2 * k + 1) - pw x (2 * k + 1) := by
  rw [ey, ex']
  have a1 := Rat.mul_le_mul_of_nonneg_left yy hd
  have xy : x * (y + x) ≤ 1 / 2 := by
   have b1 := mul_le2 h (show (0 : Rat) ≤ 1 by grind) (show x ≤ 1 / 2 by grind) (show y + x ≤ 1 by grind)
   grind
  have c0 : 0 ≤ (y - x) * pw x (2 * k) := Rat.mul_nonneg (by grind) px
  have a2 := Rat.mul_le_mul_of_nonneg_left xy c0
  have e2 : pw y (2 * k + 1) * (y * y) - pw x (2 * k + 1) * (x * x) = (pw y (2 * k + 1) - pw x (2 * k + 1)) * (y * y) + (y - x) * pw x (2 * k) * (x * (y + x)) := by rw [e1]; grind
  rw [e2]
  grind
 have hd2 : 0 ≤ pw y (2 * (k + 1) + 1) - pw x (2 * (k + 1) + 1) := by have := pw_mono h l (2 * (k + 1) + 1); grind
 have fin := mul_le2 hd2 (inv_odd k) main (inv_step k)
 unfold tq
 simp only [Rat.div_def]
 grind
theorem as_sub (f g : Nat → Rat) : ∀ m, asQ (fun k => f k - g k) m = asQ f m - asQ g m
 | 0 => by show (0 : Rat) = 0 - 0; grind
 | m + 1 => by
  show asQ (fun k => f k - g k) m + sgQ m * (f m - g m) = _
  rw [as_sub f g m]
  show _ = asQ f m + sgQ m * f m - (asQ g m + sgQ m * g m)
  grind
theorem ar_mono {x y : Rat} (h : 0 ≤ x) (l : x ≤ y) (hy : y ≤ 1 / 2) (m : Nat) : asQ (tq x) m ≤ asQ (tq y) m := by
 have a := as_nonneg (f := fun k => tq y k - tq x k) (fun k => by have := tq_mono h l k; grind) (tq_dd h l hy)
 have e := as_sub (tq y) (tq x) m
 have b : 0 ≤ asQ (fun k => tq y k - tq x k) m := by
  rcases Nat.mod_two_eq_zero_or_one m with c | c
  ·have := (a (m / 2)).1
   rw [show 2 * (m / 2) = m by omega] at this; exact this
  ·have := (a (m / 2)).2
   rw [show 2 * (m / 2) + 1 = m by omega] at this; exact this
 grind
theorem tq_neg (x : Rat) (k : Nat) : tq (-x) k = -tq x k := by
 have : ∀ k, pw (-x) (2 * k) = pw x (2 * k) ∧ pw (-x) (2 * k + 1) = -pw x (2 * k + 1) := by
  intro k
  induction k with
  | zero => exact ⟨rfl, by show 1 * -x = -(1 * x); grind⟩
  | succ k ih =>
   have h : pw (-x) (2 * (k + 1)) = pw x (2 * (k + 1)) := by
    show pw (-x) (2 * k + 1) * -x = pw x (2 * k + 1) * x
    rw [ih.2]; grind
   exact ⟨h, by show pw (-x) (2 * (k + 1)) * -x = -(pw x (2 * (k + 1)) * x); rw [h]; grind⟩
 unfold tq
 rw [(this k).2]; simp only [Rat.div_def]; grind
theorem as_neg (f : Nat → Rat) : ∀ m, asQ (fun k => -f k) m = -asQ f m
 | 0 => by show (0 : Rat) = -0; grind
 | m + 1 => by
  show asQ (fun k => -f k) m + sgQ m * -f m = -(asQ f m + sgQ m * f m)
  rw [as_neg f m]; grind
def eta (n : Nat) : Rat := 8 * asQ (tq (1 / 5)) (n / 2) - 2 * asQ (tq (1 / 239)) (n / 2)
theorem al_im' (x : Rat) (n : Nat) : al n (im x) = im (2 * asQ (tq x) (n / 2)) := by
 rcases Nat.mod_two_eq_zero_or_one n with c | c
 ·have := (al_im x (n / 2)).1
  rw [show 2 * (n / 2) = n by omega] at this; exact this
 ·have := (al_im x (n / 2)).2
  rw [show 2 * (n / 2) + 1 = n by omega] at this; exact this
theorem qtP_is (n : Nat) : qtP n = im (eta n) := by
 unfold qtP eta
 rw [al_im', al_im', show tq (-(1 / 239)) = fun k => -tq (1 / 239) k from funext (tq_neg _), as_neg]
 simp only [im_add]
 exact congrArg im (by grind)
theorem eta_rb : Rb eta := by
 have n1 : nm (im (1 / 5)) ≤ 1 / 2 := by rw [nm_im, ab_of (by grind)]; grind
 have n2 : nm (im (-(1 / 239))) ≤ 1 / 2 := by rw [nm_im, ab_neg, ab_of (by grind)]; grind
 have b1 := al_bdd n1
 have b2 := al_bdd n2
 have := (Rb.of_nm (((b1.add b1).add (b1.add b1)).add b2)).2
 have e : (fun n => (qtP n).im) = eta := funext fun n => by rw [qtP_is]; rfl
 rw [← e]; exact this
theorem e_quarter : Nr (fun n => E n (im (eta n))) (fun _ => im 1) := by
 have h := quarter
 rw [show (fun n => E n (qtP n)) = (fun n => E n (im (eta n))) from funext fun n => by rw [qtP_is]] at h
 exact h
theorem e_eta {s : Nat → Rat} (h : Rb s) : ∀ k : Nat, Rb (fun n => s n + k * eta n) ∧ Nr (fun n => E n (im (s n + k * eta n))) (fun n => pw (im 1) k * E n (im (s n)))
 | 0 => by
  have e : (fun n => s n + ((0 : Nat) : Rat) * eta n) = s := funext fun n => by grind
  refine ⟨by rw [e]; exact h, Nr.of_eq fun n => ?_⟩
  rw [show s n + ((0 : Nat) : Rat) * eta n = s n by grind]
  exact (em _).symm
 | k + 1 => by
  obtain ⟨b, r⟩ := e_eta h k
  have e : (fun n => s n + ((k + 1 : Nat) : Rat) * eta n) = (fun n => s n + k * eta n + eta n) := funext fun n => by
   rw [show ((k + 1 : Nat) : Rat) = k + 1 by grind]; grind
  have e2 : (fun n => MX.E n (MX.im (s n + ((k + 1 : Nat) : Rat) * eta n))) = (fun n => MX.E n (MX.im (s n + k * eta n) + MX.im (eta n))) := funext fun n => by
   rw [im_add]; exact congrArg (fun v => MX.E n (MX.im v)) (congrFun e n)
  refine ⟨by rw [e]; exact b.add eta_rb, ?_⟩
  rw [e2]
  refine Nr.trans (Nr.symm (Nr.E_add b.im eta_rb.im)) (Nr.trans (Nr.mul r e_quarter eta_rb.im.E ((Bd.const _).mul h.im.E)) (Nr.of_eq fun n => ?_))
  show pw (im 1) k * E n (im (s n)) * im 1 = pw (im 1) k * im 1 * E n (im (s n))
  ac_rfl
end Go.Proofs.YtjlbngjeekdfcaaGreatDoor.MX
