/-
  polynomials as series of integers: a ring, degrees, values, one put into another, the derivative; lists.
-/
import Derived.Test.YtnidohbbimfpjaaZsto
namespace Go.Proofs.Ytnidohbbimfpjaa.MP
set_option linter.unusedVariables false
set_option linter.unusedSimpArgs false
/-- A series of integers: the coefficients of a polynomial, from the power 0 on. -/
def Se := Nat → Int
namespace Se
theorem ext {p q : Se} (h : ∀ i, p i = q i) : p = q := funext h
instance : Add Se := ⟨fun p q i => p i + q i⟩
instance : Neg Se := ⟨fun p i => -p i⟩
instance : Sub Se := ⟨fun p q i => p i - q i⟩
/-- The constant. -/
def c (a : Int) : Se := fun i => if i = 0 then a else 0
/-- a times p. -/
def sm (a : Int) (p : Se) : Se := fun i => a * p i
/-- p without its first coefficient, and the power less by one. -/
def tl (p : Se) : Se := fun i => p (i + 1)
/-- x times p. -/
def sh (p : Se) : Se := fun i => match i with | 0 => 0 | i + 1 => p i
def mulc : Se → Se → Nat → Int
  | p, q, 0 => p 0 * q 0
  | p, q, k + 1 => p 0 * q (k + 1) + mulc (tl p) q k
instance : Mul Se := ⟨mulc⟩
variable (p q r s : Se) (a b : Int)
theorem add_at (i : Nat) : (p + q) i = p i + q i := rfl
theorem sub_at (i : Nat) : (p - q) i = p i - q i := rfl
theorem neg_at (i : Nat) : (-p) i = -p i := rfl
theorem sm_at (i : Nat) : (sm a p) i = a * p i := rfl
theorem tl_at (i : Nat) : (tl p) i = p (i + 1) := rfl
theorem sh_0 : (sh p) 0 = 0 := rfl
theorem sh_at (i : Nat) : (sh p) (i + 1) = p i := rfl
theorem c_0 : (c a) 0 = a := rfl
theorem c_at (i : Nat) : (c a) (i + 1) = 0 := rfl
theorem mul_0 : (p * q) 0 = p 0 * q 0 := rfl
theorem mul_at (k : Nat) : (p * q) (k + 1) = p 0 * q (k + 1) + (tl p * q) k := rfl
theorem add_comm : p + q = q + p := ext fun i => Int.add_comm _ _
theorem add_assoc : p + q + r = p + (q + r) := ext fun i => Int.add_assoc _ _ _
theorem sub_eq : p - q = p + -q := ext fun i => Int.sub_eq_add_neg
instance : Std.Commutative (α := Se) (· + ·) := ⟨add_comm⟩
instance : Std.Associative (α := Se) (· + ·) := ⟨add_assoc⟩
theorem add_zero : p + c 0 = p := ext fun i => by cases i <;> simp [add_at, c_0, c_at]
theorem zero_add : c 0 + p = p := by rw [add_comm, add_zero]
theorem add_neg : p + -p = c 0 := ext fun i => by cases i <;> simp [add_at, neg_at, c_0, c_at, Int.add_right_neg]
theorem sm_add : sm a (p + q) = sm a p + sm a q := ext fun i => by simp only [sm_at, add_at]; grind
theorem add_sm : sm (a + b) p = sm a p + sm b p := ext fun i => by simp only [sm_at, add_at]; grind
theorem sm_sm : sm a (sm b p) = sm (a * b) p := ext fun i => by simp only [sm_at]; grind
theorem sm_one : sm 1 p = p := ext fun i => by simp [sm_at]
theorem sm_zero : sm 0 p = c 0 := ext fun i => by cases i <;> simp [sm_at, c_0, c_at]
theorem sm_neg : sm (-1) p = -p := ext fun i => by simp only [sm_at, neg_at]; grind
theorem tl_add : tl (p + q) = tl p + tl q := rfl
theorem tl_sm : tl (sm a p) = sm a (tl p) := rfl
theorem tl_c : tl (c a) = c 0 := ext fun i => by cases i <;> rfl
theorem tl_sh : tl (sh p) = p := rfl
theorem split : p = c (p 0) + sh (tl p) := ext fun i => by cases i <;> simp [add_at, c_0, c_at, sh_0, sh_at, tl_at]
theorem mul_at' : ∀ (k : Nat) (p q : Se), (p * q) (k + 1) = q 0 * p (k + 1) + (p * tl q) k
  | 0, p, q => by rw [mul_at, mul_0, mul_0]; simp only [tl_at]; grind
  | k + 1, p, q => by rw [mul_at, mul_at' k, mul_at]; simp only [tl_at]; grind
theorem mul_comm : p * q = q * p := by
  refine ext fun k => ?_
  induction k generalizing p q with
  | zero => rw [mul_0, mul_0, Int.mul_comm]
  | succ k ih => rw [mul_at, mul_at', ih]
theorem add_mul : (p + q) * r = p * r + q * r := by
  refine ext fun k => ?_
  induction k generalizing p q with
  | zero => simp only [mul_0, add_at]; grind
  | succ k ih => simp only [mul_at, add_at, tl_add, ih]; grind
theorem mul_add : r * (p + q) = r * p + r * q := by rw [mul_comm, add_mul, mul_comm p, mul_comm q]
theorem sm_mul : sm a p * q = sm a (p * q) := by
  refine ext fun k => ?_
  induction k generalizing p with
  | zero => simp only [mul_0, sm_at]; grind
  | succ k ih => have := ih (tl p); simp only [mul_at, sm_at, tl_sm] at this ⊢; grind
theorem mul_sm : p * sm a q = sm a (p * q) := by rw [mul_comm, sm_mul, mul_comm]
theorem c_mul : c a * p = sm a p := by
  refine ext fun k => ?_
  induction k generalizing a with
  | zero => rfl
  | succ k ih => rw [mul_at, tl_c, ih]; simp only [sm_at, c_0]; grind
theorem mul_c : p * c a = sm a p := by rw [mul_comm, c_mul]
theorem one_mul : c 1 * p = p := by rw [c_mul, sm_one]
theorem mul_one : p * c 1 = p := by rw [mul_comm, one_mul]
theorem zero_mul : c 0 * p = c 0 := by rw [c_mul, sm_zero]
theorem mul_zero : p * c 0 = c 0 := by rw [mul_comm, zero_mul]
theorem sh_mul : sh p * q = sh (p * q) := by
  refine ext fun k => ?_
  cases k with
  | zero => simp only [mul_0, sh_0]; grind
  | succ k => rw [mul_at, sh_0, tl_sh, sh_at]; grind
theorem mul_sh : p * sh q = sh (p * q) := by rw [mul_comm, sh_mul, mul_comm]
theorem tl_mul : tl (p * q) = sm (p 0) (tl q) + tl p * q := ext fun k => rfl
theorem mul_assoc : p * q * r = p * (q * r) := by
  refine ext fun k => ?_
  induction k generalizing p with
  | zero => simp only [mul_0]; grind
  | succ k ih => rw [mul_at, tl_mul, add_mul, add_at, ih, sm_mul, sm_at, mul_0, mul_at, mul_at]; grind
instance : Std.Commutative (α := Se) (· * ·) := ⟨mul_comm⟩
instance : Std.Associative (α := Se) (· * ·) := ⟨mul_assoc⟩
theorem neg_mul : -p * q = -(p * q) := by rw [← sm_neg, sm_mul, sm_neg]
theorem mul_neg : p * -q = -(p * q) := by rw [mul_comm, neg_mul, mul_comm]
theorem mul_sub : p * (q - r) = p * q - p * r := by rw [sub_eq, sub_eq, mul_add, mul_neg]
theorem sub_mul : (q - r) * p = q * p - r * p := by rw [mul_comm, mul_sub, mul_comm p, mul_comm p]
theorem sub_self : p - p = c 0 := by rw [sub_eq, add_neg]
theorem c_add : c a + c b = c (a + b) := ext fun i => by cases i <;> simp [add_at, c_0, c_at]
theorem c_sm : sm a (c b) = c (a * b) := ext fun i => by cases i <;> simp [sm_at, c_0, c_at]
theorem c_inj {a b : Int} (h : c a = c b) : a = b := by have := congrArg (fun p => p 0) h; simpa [c] using this
theorem sh_add : sh (p + q) = sh p + sh q := ext fun i => by cases i <;> simp [add_at, sh_0, sh_at]
theorem sh_sm : sh (sm a p) = sm a (sh p) := ext fun i => by cases i <;> simp [sm_at, sh_0, sh_at]
theorem sh_zero : sh (c 0) = c 0 := ext fun i => by cases i with | zero => rfl | succ i => cases i <;> rfl
end Se
end Go.Proofs.Ytnidohbbimfpjaa.MP
namespace Go.Proofs.Ytnidohbbimfpjaa.MP
set_option linter.unusedVariables false
set_option linter.unusedSimpArgs false
namespace Se
/-- Nothing from the power n on. -/
def Bd (p : Se) (n : Nat) : Prop := ∀ i, n ≤ i → p i = 0
/-- The degree is n. -/
def Dg (p : Se) (n : Nat) : Prop := p n ≠ 0 ∧ Bd p (n + 1)
/-- A polynomial. -/
def Fn (p : Se) : Prop := ∃ n, Bd p n
variable {p q r s t : Se} {a b : Int} {m n k : Nat}
theorem Bd.le (h : Bd p m) (hmn : m ≤ n) : Bd p n := fun i hi => h i (Nat.le_trans hmn hi)
theorem Bd.tl (h : Bd p (n + 1)) : Bd (Se.tl p) n := fun i hi => h (i + 1) (by omega)
theorem Bd.zero (h : Bd p 0) : p = c 0 := ext fun i => by rw [h i (by omega)]; cases i <;> rfl
theorem Bd.c (a : Int) : Bd (Se.c a) 1 := fun i hi => by cases i with | zero => omega | succ i => rfl
theorem Bd.c0 (n : Nat) : Bd (Se.c 0) n := fun i hi => by cases i <;> rfl
theorem Bd.add (h : Bd p n) (h2 : Bd q n) : Bd (p + q) n := fun i hi => by rw [add_at, h i hi, h2 i hi]; rfl
theorem Bd.neg (h : Bd p n) : Bd (-p) n := fun i hi => by rw [neg_at, h i hi]; rfl
theorem Bd.sub (h : Bd p n) (h2 : Bd q n) : Bd (p - q) n := fun i hi => by rw [sub_at, h i hi, h2 i hi]; rfl
theorem Bd.sm (h : Bd p n) : Bd (Se.sm a p) n := fun i hi => by rw [sm_at, h i hi, Int.mul_zero]
theorem Bd.sh (h : Bd p n) : Bd (Se.sh p) (n + 1) := fun i hi => by
  cases i with
  | zero => rfl
  | succ i => exact h i (by omega)
theorem mul_bd (h : Bd p (m + 1)) (h2 : Bd q (n + 1)) : Bd (p * q) (m + n + 1) ∧ (p * q) (m + n) = p m * q n := by
  induction m generalizing p with
  | zero =>
    have e : p = Se.c (p 0) := by rw [split p, h.tl.zero, sh_zero, add_zero]; rfl
    rw [e, c_mul]
    exact ⟨Bd.le h2.sm (by omega), by rw [Nat.zero_add, sm_at]; rfl⟩
  | succ m ih =>
    have ⟨h3, h4⟩ := ih h.tl
    refine ⟨fun i hi => ?_, ?_⟩
    · cases i with
      | zero => omega
      | succ i => rw [mul_at, h2 _ (by omega), h3 _ (by omega), Int.mul_zero]; rfl
    · rw [show m + 1 + n = m + n + 1 by omega, mul_at, h2 _ (by omega), h4, Int.mul_zero, Int.zero_add]; rfl
theorem Fn.add (h : Fn p) (h2 : Fn q) : Fn (p + q) := by
  obtain ⟨m, h⟩ := h; obtain ⟨n, h2⟩ := h2
  exact ⟨m + n, (h.le (by omega)).add (h2.le (by omega))⟩
theorem Fn.neg (h : Fn p) : Fn (-p) := h.imp fun _ h => h.neg
theorem Fn.sub (h : Fn p) (h2 : Fn q) : Fn (p - q) := by rw [sub_eq]; exact h.add h2.neg
theorem Fn.sm (h : Fn p) : Fn (Se.sm a p) := h.imp fun _ h => h.sm
theorem Fn.sh (h : Fn p) : Fn (Se.sh p) := by obtain ⟨n, h⟩ := h; exact ⟨_, h.sh⟩
theorem Fn.tl (h : Fn p) : Fn (Se.tl p) := by obtain ⟨n, h⟩ := h; exact ⟨n, (h.le (Nat.le_succ n)).tl⟩
theorem Fn.c (a : Int) : Fn (Se.c a) := ⟨1, Bd.c a⟩
theorem Fn.mul (h : Fn p) (h2 : Fn q) : Fn (p * q) := by
  obtain ⟨m, h⟩ := h; obtain ⟨n, h2⟩ := h2
  exact ⟨_, (mul_bd (h.le (Nat.le_succ m)) (h2.le (Nat.le_succ n))).1⟩
theorem Dg.ne (h : Dg p n) : p ≠ Se.c 0 := fun e => h.1 (by rw [e]; cases n <;> rfl)
theorem Dg.fn (h : Dg p n) : Fn p := ⟨_, h.2⟩
theorem Dg.uniq (h : Dg p m) (h2 : Dg p n) : m = n := by
  rcases Nat.lt_trichotomy m n with k | k | k
  · exact absurd (h.2 n k) h2.1
  · exact k
  · exact absurd (h2.2 m k) h.1
theorem Bd.dg (h : Bd p n) (h0 : p ≠ Se.c 0) : ∃ m, Dg p m ∧ m < n := by
  induction n with
  | zero => exact absurd h.zero h0
  | succ n ih =>
    by_cases k : p n = 0
    · obtain ⟨m, h1, h2⟩ := ih fun i hi => by
        rcases Nat.eq_or_lt_of_le hi with e | e
        · exact e ▸ k
        · exact h i e
      exact ⟨m, h1, by omega⟩
    · exact ⟨n, ⟨k, h⟩, by omega⟩
theorem Fn.dg (h : Fn p) (h0 : p ≠ Se.c 0) : ∃ m, Dg p m := by
  obtain ⟨n, h⟩ := h
  obtain ⟨m, h, _⟩ := h.dg h0
  exact ⟨m, h⟩
theorem Dg.mul (h : Dg p m) (h2 : Dg q n) : Dg (p * q) (m + n) := by
  have ⟨h3, h4⟩ := mul_bd h.2 h2.2
  exact ⟨by rw [h4]; exact Int.mul_ne_zero h.1 h2.1, h3⟩
theorem Dg.sm (h : Dg p m) (ha : a ≠ 0) : Dg (Se.sm a p) m := ⟨by rw [sm_at]; exact Int.mul_ne_zero ha h.1, h.2.sm⟩
theorem mul_ne (hp : Fn p) (hq : Fn q) (h : p ≠ Se.c 0) (h2 : q ≠ Se.c 0) : p * q ≠ Se.c 0 := by
  obtain ⟨m, h⟩ := hp.dg h; obtain ⟨n, h2⟩ := hq.dg h2
  exact (h.mul h2).ne
theorem sub_zero_iff : p - q = Se.c 0 ↔ p = q := by
  constructor
  · intro h
    refine ext fun i => ?_
    have := congrArg (fun f => f i) h
    simp only [sub_at] at this
    have e : (Se.c 0) i = 0 := by cases i <;> rfl
    omega
  · rintro rfl; exact sub_self _
theorem mul_cancel (hp : Fn p) (h : p ≠ Se.c 0) (hs : Fn s) (ht : Fn t) (e : p * s = p * t) : s = t := by
  refine Classical.byContradiction fun k => ?_
  refine mul_ne hp (hs.sub ht) h (fun e2 => k (sub_zero_iff.1 e2)) ?_
  rw [mul_sub, e, sub_self]
/-- One quotient, one rest. -/
theorem div_uniq (hq : Dg q n) (ht : Fn t) (hs : Fn s) {r1 r2 : Se} (h1 : Bd r1 n) (h2 : Bd r2 n) (e : q * t + r1 = q * s + r2) : t = s ∧ r1 = r2 := by
  have e2 : q * (t - s) = r2 - r1 := by
    refine ext fun i => ?_
    have := congrArg (fun f => f i) e
    simp only [add_at] at this
    rw [mul_sub, sub_at, sub_at]
    omega
  have e3 : t = s := by
    refine Classical.byContradiction fun k => ?_
    obtain ⟨m, hm⟩ := (ht.sub hs).dg fun e => k (sub_zero_iff.1 e)
    have := hq.mul hm
    rw [e2] at this
    exact this.1 ((h2.sub h1) _ (by omega))
  subst e3
  refine ⟨rfl, ext fun i => ?_⟩
  have := congrArg (fun f => f i) e
  simp only [add_at] at this
  omega
theorem sm_cancel (ha : a ≠ 0) (e : Se.sm a p = Se.sm a q) : p = q := ext fun i => Int.eq_of_mul_eq_mul_left ha (congrArg (fun f => f i) e)
theorem sm_ne (ha : a ≠ 0) (h : p ≠ Se.c 0) : Se.sm a p ≠ Se.c 0 := fun e => h (sm_cancel ha (by rw [e, c_sm, Int.mul_zero]))
/-- a divides b. -/
def Dv (p q : Se) : Prop := ∃ t, Fn t ∧ q = p * t
theorem Dv.refl (p : Se) : Dv p p := ⟨Se.c 1, Fn.c 1, (mul_one p).symm⟩
theorem Dv.trans (h : Dv p q) (h2 : Dv q r) : Dv p r := by
  obtain ⟨s, hs, rfl⟩ := h; obtain ⟨t, ht, rfl⟩ := h2
  exact ⟨s * t, hs.mul ht, by rw [mul_assoc]⟩
theorem Dv.add (h : Dv p q) (h2 : Dv p r) : Dv p (q + r) := by
  obtain ⟨s, hs, rfl⟩ := h; obtain ⟨t, ht, rfl⟩ := h2
  exact ⟨s + t, hs.add ht, by rw [mul_add]⟩
theorem Dv.neg (h : Dv p q) : Dv p (-q) := by
  obtain ⟨s, hs, rfl⟩ := h
  exact ⟨-s, hs.neg, by rw [mul_neg]⟩
theorem Dv.sub (h : Dv p q) (h2 : Dv p r) : Dv p (q - r) := by rw [sub_eq]; exact h.add h2.neg
theorem Dv.mul (h : Dv p q) (ht : Fn t) : Dv p (q * t) := by
  obtain ⟨s, hs, rfl⟩ := h
  exact ⟨s * t, hs.mul ht, mul_assoc _ _ _⟩
theorem Dv.sm (h : Dv p q) : Dv p (Se.sm a q) := by rw [← mul_c]; exact h.mul (Fn.c a)
theorem Dv.right (ht : Fn t) : Dv p (p * t) := ⟨t, ht, rfl⟩
theorem Dv.left (ht : Fn t) : Dv p (t * p) := ⟨t, ht, mul_comm _ _⟩
theorem Dv.zero : Dv p (Se.c 0) := ⟨Se.c 0, Fn.c 0, (mul_zero p).symm⟩
theorem Dv.mul2 (h : Dv p q) (r : Se) : Dv (p * r) (q * r) := by
  obtain ⟨s, hs, rfl⟩ := h
  exact ⟨s, hs, by ac_rfl⟩
theorem Dv.can (hr : Fn r) (h0 : r ≠ Se.c 0) (hp : Fn p) (hq : Fn q) (h : Dv (r * p) (r * q)) : Dv p q := by
  obtain ⟨s, hs, e⟩ := h
  exact ⟨s, hs, mul_cancel hr h0 hq (hp.mul hs) (by rw [e, mul_assoc])⟩
theorem Dv.le (h : Dv p q) (hp : Dg p m) (hq : Dg q n) : m ≤ n := by
  obtain ⟨s, hs, rfl⟩ := h
  have h0 : s ≠ Se.c 0 := fun e => hq.ne (by rw [e, mul_zero])
  obtain ⟨k, hk⟩ := hs.dg h0
  have := (hp.mul hk).uniq hq
  omega
end Se
end Go.Proofs.Ytnidohbbimfpjaa.MP
namespace Go.Proofs.Ytnidohbbimfpjaa.MP
set_option linter.unusedVariables false
set_option linter.unusedSimpArgs false
namespace Se
variable {p q r s t : Se} {a b : Int} {m n k : Nat}
/-- p at a number, of n coefficients. -/
def ev : Nat → Se → Int → Int
  | 0, _, _ => 0
  | n + 1, p, x => p 0 + x * ev n (tl p) x
/-- p at a polynomial, of n coefficients. -/
def cp : Nat → Se → Se → Se
  | 0, _, _ => c 0
  | n + 1, p, s => c (p 0) + s * cp n (tl p) s
theorem ev_more (h : Bd p n) (x : Int) : ∀ {m}, n ≤ m → ev m p x = ev n p x := by
  intro m hm
  induction m generalizing n p with
  | zero => rw [Nat.le_zero.1 hm]
  | succ m ih =>
    cases n with
    | zero =>
      have := ih (n := 0) (p := tl p) (fun i _ => h (i + 1) (by omega)) (by omega)
      show p 0 + x * ev m (tl p) x = 0
      rw [this, h 0 (by omega)]; simp [ev]
    | succ n => rw [ev, ev, ih h.tl (by omega)]
theorem cp_more (h : Bd p n) (x : Se) : ∀ {m}, n ≤ m → cp m p x = cp n p x := by
  intro m hm
  induction m generalizing n p with
  | zero => rw [Nat.le_zero.1 hm]
  | succ m ih =>
    cases n with
    | zero =>
      have := ih (n := 0) (p := tl p) (fun i _ => h (i + 1) (by omega)) (by omega)
      show c (p 0) + x * cp m (tl p) x = c 0
      rw [this, h 0 (by omega)]
      show c 0 + x * c 0 = c 0
      rw [mul_zero, add_zero]
    | succ n => rw [cp, cp, ih h.tl (by omega)]
theorem ev_add (n : Nat) (p q : Se) (x : Int) : ev n (p + q) x = ev n p x + ev n q x := by
  induction n generalizing p q with
  | zero => rfl
  | succ n ih => rw [ev, ev, ev, tl_add, ih, add_at]; grind
theorem ev_sm (n : Nat) (a : Int) (p : Se) (x : Int) : ev n (sm a p) x = a * ev n p x := by
  induction n generalizing p with
  | zero => simp [ev]
  | succ n ih => rw [ev, ev, tl_sm, ih, sm_at]; grind
theorem ev_sub (n : Nat) (p q : Se) (x : Int) : ev n (p - q) x = ev n p x - ev n q x := by
  rw [sub_eq, ev_add, ← sm_neg, ev_sm]; grind
theorem ev_sh (n : Nat) (p : Se) (x : Int) : ev (n + 1) (sh p) x = x * ev n p x := by rw [ev, tl_sh, sh_0, Int.zero_add]
theorem ev_c (n : Nat) (a x : Int) : ev (n + 1) (c a) x = a := by
  rw [ev, tl_c, ev_more (Bd.c0 0) x (Nat.zero_le n)]; simp [ev, c_0]
theorem ev_mul (h : Bd p m) (h2 : Bd q n) (x : Int) : ev (m + n) (p * q) x = ev m p x * ev n q x := by
  induction m generalizing p with
  | zero => rw [h.zero, zero_mul, ev_more (Bd.c0 0) x (Nat.zero_le _)]; simp [ev]
  | succ m ih =>
    have e : p * q = sm (p 0) q + sh (tl p * q) := by
      conv => lhs; rw [split p]
      rw [add_mul, c_mul, sh_mul]
    rw [e, show m + 1 + n = m + n + 1 by omega, ev_add, ev_sm, ev_sh, ih h.tl, ev_more h2 x (by omega), ev]; grind
theorem cp_add (n : Nat) (p q : Se) (x : Se) : cp n (p + q) x = cp n p x + cp n q x := by
  induction n generalizing p q with
  | zero => exact (add_zero _).symm
  | succ n ih => rw [cp, cp, cp, tl_add, ih, add_at, mul_add, ← c_add]; ac_rfl
theorem cp_sm (n : Nat) (a : Int) (p : Se) (x : Se) : cp n (sm a p) x = sm a (cp n p x) := by
  induction n generalizing p with
  | zero => exact (by rw [c_sm, Int.mul_zero] : sm a (c 0) = c 0).symm
  | succ n ih => rw [cp, cp, tl_sm, ih, sm_at, sm_add, c_sm, mul_sm]
theorem cp_sh (n : Nat) (p : Se) (x : Se) : cp (n + 1) (sh p) x = x * cp n p x := by rw [cp, tl_sh, sh_0, zero_add]
theorem cp_c (n : Nat) (a : Int) (x : Se) : cp (n + 1) (c a) x = c a := by
  rw [cp, tl_c, cp_more (Bd.c0 0) x (Nat.zero_le n)]
  show c a + x * c 0 = c a
  rw [mul_zero, add_zero]
theorem cp_mul (h : Bd p m) (h2 : Bd q n) (x : Se) : cp (m + n) (p * q) x = cp m p x * cp n q x := by
  induction m generalizing p with
  | zero => rw [h.zero, zero_mul, cp_more (Bd.c0 0) x (Nat.zero_le _)]; exact (zero_mul _).symm
  | succ m ih =>
    have e : p * q = sm (p 0) q + sh (tl p * q) := by
      conv => lhs; rw [split p]
      rw [add_mul, c_mul, sh_mul]
    rw [e, show m + 1 + n = m + n + 1 by omega, cp_add, cp_sm, cp_sh, ih h.tl, cp_more h2 x (by omega), cp, add_mul, c_mul, mul_assoc]
theorem Fn.cp (n : Nat) (p : Se) (h : Fn s) : Fn (Se.cp n p s) := by
  induction n generalizing p with
  | zero => exact Fn.c 0
  | succ n ih => exact (Fn.c _).add (h.mul (ih _))
/-- p put behind s is of at most so many coefficients (s of two). -/
theorem cp_bd2 (h : Bd s 2) (n : Nat) (p : Se) : Bd (cp n p s) n := by
  induction n generalizing p with
  | zero => exact Bd.c0 0
  | succ n ih =>
    rw [cp]
    refine ((Bd.c _).le (by omega)).add ?_
    cases n with
    | zero => exact (show s * c 0 = c 0 from mul_zero s) ▸ Bd.c0 _
    | succ n => exact (mul_bd h (ih (tl p))).1.le (by omega)
open Classical in
/-- The value of p at a number. -/
noncomputable def vl (p : Se) (x : Int) : Int := if h : Fn p then ev h.choose p x else 0
open Classical in
/-- p at a polynomial. -/
noncomputable def pu (p s : Se) : Se := if h : Fn p then cp h.choose p s else c 0
theorem vl_is (h : Bd p n) (x : Int) : vl p x = ev n p x := by
  have hf : Fn p := ⟨n, h⟩
  rw [vl, dif_pos hf]
  rcases Nat.le_total hf.choose n with k | k
  · exact (ev_more hf.choose_spec x k).symm
  · exact ev_more h x k
theorem pu_is (h : Bd p n) (s : Se) : pu p s = cp n p s := by
  have hf : Fn p := ⟨n, h⟩
  rw [pu, dif_pos hf]
  rcases Nat.le_total hf.choose n with k | k
  · exact (cp_more hf.choose_spec s k).symm
  · exact cp_more h s k
theorem vl_add (hp : Fn p) (hq : Fn q) (x : Int) : vl (p + q) x = vl p x + vl q x := by
  obtain ⟨m, hp⟩ := hp; obtain ⟨n, hq⟩ := hq
  have h1 : Bd p (m + n) := hp.le (by omega)
  have h2 : Bd q (m + n) := hq.le (by omega)
  rw [vl_is h1, vl_is h2, vl_is (h1.add h2), ev_add]
theorem vl_sm (hp : Fn p) (a x : Int) : vl (sm a p) x = a * vl p x := by
  obtain ⟨m, hp⟩ := hp
  rw [vl_is hp, vl_is hp.sm, ev_sm]
theorem vl_sub (hp : Fn p) (hq : Fn q) (x : Int) : vl (p - q) x = vl p x - vl q x := by
  rw [sub_eq, vl_add hp hq.neg, ← sm_neg, vl_sm hq]; grind
theorem vl_mul (hp : Fn p) (hq : Fn q) (x : Int) : vl (p * q) x = vl p x * vl q x := by
  obtain ⟨m, hp⟩ := hp; obtain ⟨n, hq⟩ := hq
  have h3 : Bd (p * q) (m + n) := by
    cases m with
    | zero => rw [hp.zero, zero_mul]; exact Bd.c0 _
    | succ m =>
      cases n with
      | zero => rw [hq.zero, mul_zero]; exact Bd.c0 _
      | succ n => exact (mul_bd hp hq).1.le (by omega)
  rw [vl_is h3, vl_is hp, vl_is hq, ev_mul hp hq]
theorem vl_c (a x : Int) : vl (c a) x = a := by rw [vl_is (Bd.c a), ev_c]
theorem vl_sh (hp : Fn p) (x : Int) : vl (sh p) x = x * vl p x := by
  obtain ⟨m, hp⟩ := hp
  rw [vl_is hp, vl_is hp.sh, ev_sh]
theorem vl_split (hp : Fn p) (x : Int) : vl p x = p 0 + x * vl (tl p) x := by
  conv => lhs; rw [split p]
  rw [vl_add (Fn.c _) hp.tl.sh, vl_c, vl_sh hp.tl]
theorem pu_add (hp : Fn p) (hq : Fn q) (s : Se) : pu (p + q) s = pu p s + pu q s := by
  obtain ⟨m, hp⟩ := hp; obtain ⟨n, hq⟩ := hq
  have h1 : Bd p (m + n) := hp.le (by omega)
  have h2 : Bd q (m + n) := hq.le (by omega)
  rw [pu_is h1, pu_is h2, pu_is (h1.add h2), cp_add]
theorem pu_sm (hp : Fn p) (a : Int) (s : Se) : pu (sm a p) s = sm a (pu p s) := by
  obtain ⟨m, hp⟩ := hp
  rw [pu_is hp, pu_is hp.sm, cp_sm]
theorem pu_c (a : Int) (s : Se) : pu (c a) s = c a := by rw [pu_is (Bd.c a), cp_c]
theorem pu_sh (hp : Fn p) (s : Se) : pu (sh p) s = s * pu p s := by
  obtain ⟨m, hp⟩ := hp
  rw [pu_is hp, pu_is hp.sh, cp_sh]
theorem pu_split (hp : Fn p) (s : Se) : pu p s = c (p 0) + s * pu (tl p) s := by
  conv => lhs; rw [split p]
  rw [pu_add (Fn.c _) hp.tl.sh, pu_c, pu_sh hp.tl]
theorem Fn.pu (hp : Fn p) (hs : Fn s) : Fn (Se.pu p s) := by
  obtain ⟨m, hp⟩ := hp
  rw [pu_is hp]; exact Fn.cp m p hs
theorem pu_mul (hp : Fn p) (hq : Fn q) (s : Se) : pu (p * q) s = pu p s * pu q s := by
  obtain ⟨m, hp⟩ := hp; obtain ⟨n, hq⟩ := hq
  have h3 : Bd (p * q) (m + n) := by
    cases m with
    | zero => rw [hp.zero, zero_mul]; exact Bd.c0 _
    | succ m =>
      cases n with
      | zero => rw [hq.zero, mul_zero]; exact Bd.c0 _
      | succ n => exact (mul_bd hp hq).1.le (by omega)
  rw [pu_is h3, pu_is hp, pu_is hq, cp_mul hp hq]
/-- An argument by the coefficients, from the last one down. -/
theorem Fn.ind {P : Se → Prop} (h0 : P (Se.c 0)) (h1 : ∀ p, Fn p → P (Se.tl p) → P p) (hp : Fn p) : P p := by
  obtain ⟨n, h⟩ := hp
  induction n generalizing p with
  | zero => exact h.zero ▸ h0
  | succ n ih => exact h1 p ⟨_, h⟩ (ih h.tl)
theorem vl_pu (hp : Fn p) (hs : Fn s) (x : Int) : vl (pu p s) x = vl p (vl s x) := by
  refine Fn.ind (P := fun p => vl (pu p s) x = vl p (vl s x)) ?_ (fun p hp ih => ?_) hp
  · rw [pu_c, vl_c, vl_c]
  · rw [pu_split hp, vl_add (Fn.c _) (hs.mul (hp.tl.pu hs)), vl_c, vl_mul hs (hp.tl.pu hs), ih, vl_split hp]
theorem pu_pu (hp : Fn p) (hs : Fn s) (t : Se) : pu (pu p s) t = pu p (pu s t) := by
  refine Fn.ind (P := fun p => pu (pu p s) t = pu p (pu s t)) ?_ (fun p hp ih => ?_) hp
  · rw [pu_c, pu_c, pu_c]
  · rw [pu_split hp, pu_add (Fn.c _) (hs.mul (hp.tl.pu hs)), pu_c, pu_mul hs (hp.tl.pu hs), ih, pu_split hp]
/-- x itself, and x + a, and c x. -/
def xa (a : Int) : Se := c a + sh (c 1)
def xc (a : Int) : Se := sh (c a)
theorem Bd.xa (a : Int) : Bd (Se.xa a) 2 := ((Bd.c a).le (by omega)).add (Bd.c 1).sh
theorem Bd.xc (a : Int) : Bd (Se.xc a) 2 := (Bd.c a).sh
theorem Fn.xa (a : Int) : Fn (Se.xa a) := ⟨_, Bd.xa a⟩
theorem Fn.xc (a : Int) : Fn (Se.xc a) := ⟨_, Bd.xc a⟩
theorem xc_mul (a : Int) (p : Se) : xc a * p = sh (sm a p) := by rw [xc, sh_mul, c_mul]
theorem xa_mul (a : Int) (p : Se) : xa a * p = sm a p + sh p := by rw [xa, add_mul, c_mul, sh_mul, one_mul]
theorem pu_x (hp : Fn p) : pu p (xc 1) = p := by
  refine Fn.ind (P := fun p => pu p (xc 1) = p) (pu_c _ _) (fun p hp ih => ?_) hp
  rw [pu_split hp, ih, xc_mul, sm_one, ← split]
theorem pu_xa (a b : Int) : pu (xa a) (xa b) = xa (b + a) := by
  rw [xa, pu_add (Fn.c a) (Fn.c 1).sh, pu_c, pu_sh (Fn.c 1), pu_c, mul_one, xa, xa, ← add_assoc, c_add, Int.add_comm]
theorem xa_zero : xa 0 = xc 1 := by rw [xa, xc, zero_add]
theorem pu_xc (a b : Int) : pu (xc a) (xc b) = xc (a * b) := by
  rw [xc, pu_sh (Fn.c a), pu_c, mul_c, xc, xc, ← sh_sm, c_sm]
theorem vl_xa (a x : Int) : vl (xa a) x = a + x := by rw [xa, vl_add (Fn.c a) (Fn.c 1).sh, vl_c, vl_sh (Fn.c 1), vl_c, Int.mul_one]
theorem vl_xc (a x : Int) : vl (xc a) x = a * x := by rw [xc, vl_sh (Fn.c a), vl_c, Int.mul_comm]
/-- The derivative. -/
def dr (p : Se) : Se := fun i => ((i + 1 : Nat) : Int) * p (i + 1)
theorem dr_at (i : Nat) : (dr p) i = ((i + 1 : Nat) : Int) * p (i + 1) := rfl
theorem dr_add (p q : Se) : dr (p + q) = dr p + dr q := ext fun i => by simp only [dr_at, add_at]; grind
theorem dr_sm (a : Int) (p : Se) : dr (sm a p) = sm a (dr p) := ext fun i => by simp only [dr_at, sm_at]; grind
theorem dr_c (a : Int) : dr (c a) = c 0 := ext fun i => by rw [dr_at, c_at]; cases i <;> simp [c]
theorem dr_sh (p : Se) : dr (sh p) = p + sh (dr p) := ext fun i => by
  cases i with
  | zero => simp only [dr_at, add_at, sh_at, sh_0]; grind
  | succ i => simp only [dr_at, add_at, sh_at]; grind
theorem dr_split (p : Se) : dr p = tl p + sh (dr (tl p)) := by
  conv => lhs; rw [split p]
  rw [dr_add, dr_c, zero_add, dr_sh]
theorem mul_split (p q : Se) : p * q = sm (p 0) q + sh (tl p * q) := by
  conv => lhs; rw [split p]
  rw [add_mul, c_mul, sh_mul]
theorem dr_mul (p q : Se) : dr (p * q) = dr p * q + p * dr q := by
  refine ext fun k => ?_
  have key : ∀ p, dr (p * q) = sm (p 0) (dr q) + (tl p * q + sh (dr (tl p * q))) := fun p => by rw [mul_split, dr_add, dr_sm, dr_sh]
  have key2 : ∀ p, dr p * q + p * dr q = sm (p 0) (dr q) + (tl p * q + sh (dr (tl p) * q + tl p * dr q)) := fun p => by
    rw [mul_split p (dr q), dr_split p, add_mul, sh_mul, sh_add]; ac_rfl
  induction k generalizing p with
  | zero => rw [key, key2]; rfl
  | succ k ih => rw [key, key2]; simp only [add_at, sh_at]; rw [ih]; rfl
theorem Fn.dr (h : Fn p) : Fn (Se.dr p) := by
  obtain ⟨n, h⟩ := h
  exact ⟨n, fun i hi => by rw [dr_at, h _ (by omega), Int.mul_zero]⟩
theorem dr_pu (hp : Fn p) (hs : Fn s) (h1 : dr s = c 1) : dr (pu p s) = pu (dr p) s := by
  refine Fn.ind (P := fun p => dr (pu p s) = pu (dr p) s) (by rw [pu_c, dr_c, pu_c]) (fun p hp ih => ?_) hp
  rw [pu_split hp, dr_add, dr_c, zero_add, dr_mul, h1, one_mul, ih, dr_split p, pu_add hp.tl hp.tl.dr.sh, pu_sh hp.tl.dr]
theorem dr_xa (a : Int) : dr (xa a) = c 1 := by rw [xa, dr_add, dr_c, zero_add, dr_sh, dr_c, sh_zero, add_zero]
theorem Bd.dr (h : Bd p n) : Bd (Se.dr p) (n - 1) := fun i hi => by rw [dr_at, h _ (by omega), Int.mul_zero]
end Se
end Go.Proofs.Ytnidohbbimfpjaa.MP
namespace Go.Proofs.Ytnidohbbimfpjaa.MP
set_option linter.unusedVariables false
set_option linter.unusedSimpArgs false
namespace Se
variable {p q r s : Se} {l m : List Int} {a x : Int} {n k i : Nat}
/-- A list's coefficients. -/
def co (l : List Int) : Se := fun i => l.getD i 0
theorem co_nil : co [] = c 0 := ext fun i => by cases i <;> rfl
theorem co_cons (a : Int) (l : List Int) : co (a :: l) = c a + sh (co l) := ext fun i => by
  cases i with
  | zero => simp [co, add_at, c, sh_0]
  | succ i => simp [co, add_at, c, sh_at]
theorem co_at (h : i < l.length) : (co l) i = l[i] := by simp [co, h]
theorem co_bd (l : List Int) : Bd (co l) l.length := fun i hi => by simp [co, hi]
theorem co_fn (l : List Int) : Fn (co l) := ⟨_, co_bd l⟩
theorem tl_co (a : Int) (l : List Int) : tl (co (a :: l)) = co l := ext fun i => by simp [co, tl_at]
theorem co_snoc (l : List Int) (a : Int) : co (l ++ [a]) = fun i => if i = l.length then a else (co l) i := by
  refine ext fun i => ?_
  show (l ++ [a]).getD i 0 = if i = l.length then a else l.getD i 0
  rcases Nat.lt_trichotomy i l.length with h | h | h
  · simp [List.getElem?_append, h, show i ≠ l.length by omega]
  · simp [h]
  · rw [if_neg (by omega)]
    simp [List.getElem?_append, show ¬ i < l.length by omega, show ¬ i - l.length < 1 by omega]
/-- In normal form: the last one isn't 0. -/
def Nm (l : List Int) : Prop := l.getLast? ≠ some 0
/-- Without the zeros at its end. -/
def nf (l : List Int) : List Int := (l.reverse.dropWhile (· == 0)).reverse
theorem nf_nil : nf [] = [] := rfl
theorem nf_zero (l : List Int) : nf (l ++ [0]) = nf l := by simp [nf]
theorem nf_ne (l : List Int) (h : a ≠ 0) : nf (l ++ [a]) = l ++ [a] := by simp [nf, h]
/-- An argument from the end. -/
theorem snoc_ind {P : List Int → Prop} (h0 : P []) (h1 : ∀ l a, P l → P (l ++ [a])) (l : List Int) : P l := by
  have : ∀ l : List Int, P l.reverse := fun l => by
    induction l with
    | nil => exact h0
    | cons a l ih => rw [List.reverse_cons]; exact h1 _ _ ih
  have := this l.reverse
  rwa [List.reverse_reverse] at this
theorem co_zero (l : List Int) : co (l ++ [0]) = co l := by
  rw [co_snoc]
  refine ext fun i => ?_
  show (if i = l.length then 0 else (co l) i) = (co l) i
  split
  · rename_i h; exact (co_bd l i (by omega)).symm
  · rfl
theorem co_nf (l : List Int) : co (nf l) = co l := by
  refine snoc_ind (P := fun l => co (nf l) = co l) rfl (fun l a ih => ?_) l
  by_cases h : a = 0
  · subst h; rw [nf_zero, ih, co_zero]
  · rw [nf_ne l h]
theorem nm_nf (l : List Int) : Nm (nf l) := by
  refine snoc_ind (P := fun l => Nm (nf l)) (by simp [Nm, nf]) (fun l a ih => ?_) l
  by_cases h : a = 0
  · subst h; rwa [nf_zero]
  · rw [nf_ne l h]; simp [Nm, h]
theorem nf_id (h : Nm l) : nf l = l := by
  revert h
  refine snoc_ind (P := fun l => Nm l → nf l = l) (fun _ => rfl) (fun l a _ h => nf_ne l ?_) l
  rintro rfl; simp [Nm] at h
theorem nm_dg (h : Nm l) (h0 : l ≠ []) : Dg (co l) (l.length - 1) := by
  revert h h0
  refine snoc_ind (P := fun l => Nm l → l ≠ [] → Dg (co l) (l.length - 1)) (fun _ h => absurd rfl h) (fun l a _ h _ => ?_) l
  have ha : a ≠ 0 := by rintro rfl; simp [Nm] at h
  refine ⟨?_, (co_bd _).le (by simp)⟩
  simp [co_snoc, ha]
theorem len_nm (h : Nm l) (h2 : Nm m) (e : co l = co m) : l.length = m.length := by
  by_cases h3 : l = []
  · by_cases h4 : m = []
    · rw [h3, h4]
    · exact absurd (by rw [← e, h3, co_nil]) (nm_dg h2 h4).ne
  · by_cases h4 : m = []
    · exact absurd (by rw [e, h4, co_nil]) (nm_dg h h3).ne
    · have := (e ▸ nm_dg h h3).uniq (nm_dg h2 h4)
      have := List.length_pos_iff.2 h3
      have := List.length_pos_iff.2 h4
      omega
/-- One list in normal form for each polynomial. -/
theorem nm_ext (h : Nm l) (h2 : Nm m) (e : co l = co m) : l = m := by
  have hl := len_nm h h2 e
  refine List.ext_getElem hl fun i h3 h4 => ?_
  rw [← co_at h3, ← co_at h4, e]
theorem nf_ext (e : co l = co m) : nf l = nf m := nm_ext (nm_nf l) (nm_nf m) (by rw [co_nf, co_nf, e])
theorem nf_nf (l : List Int) : nf (nf l) = nf l := nf_id (nm_nf l)
theorem nf_len (l : List Int) : (nf l).length ≤ l.length := by
  refine snoc_ind (P := fun l => (nf l).length ≤ l.length) (Nat.le_refl _) (fun l a ih => ?_) l
  by_cases h : a = 0
  · subst h; rw [nf_zero]; simp; omega
  · rw [nf_ne l h]; exact Nat.le_refl _
theorem nf_nil_iff : nf l = [] ↔ co l = c 0 := by
  constructor
  · intro h; rw [← co_nf, h, co_nil]
  · intro h; exact nm_ext (nm_nf l) (by simp [Nm]) (by rw [co_nf, h, co_nil])
/-- The list of a polynomial of n coefficients. -/
def ls (n : Nat) (p : Se) : List Int := (List.range n).map fun i => p i
theorem co_ls (h : Bd p n) : co (ls n p) = p := ext fun i => by
  rcases Nat.lt_or_ge i n with k | k
  · simp [co, ls, k]
  · rw [h i k]; simp [co, ls, k]
theorem len_ls (n : Nat) (p : Se) : (ls n p).length = n := by simp [ls]
theorem ls_at (h : i < (ls n p).length) : (ls n p)[i] = p i := by simp [ls]
theorem ls_succ (n : Nat) (p : Se) : ls (n + 1) p = ls n p ++ [p n] := by simp [ls, List.range_succ]
/-- The values of the last so many coefficients, as Horner's rule has them. -/
def hr (l : List Int) (x : Int) : Int := l.foldr (fun a v => a + x * v) 0
theorem vl_co (l : List Int) (x : Int) : vl (co l) x = hr l x := by
  induction l with
  | nil => rw [co_nil, vl_c]; rfl
  | cons a l ih => rw [co_cons, vl_add (Fn.c a) (co_fn l).sh, vl_c, vl_sh (co_fn l), ih]; rfl
end Se
end Go.Proofs.Ytnidohbbimfpjaa.MP
namespace Go.Proofs.Ytnidohbbimfpjaa.MP
set_option linter.unusedVariables false
set_option linter.unusedSimpArgs false
namespace Se
variable {p q r s : Se} {l m : List Int} {a b x : Int} {n k i : Nat}
/-- a at the power i. -/
def mo (i : Nat) (a : Int) : Se := fun k => if k = i then a else 0
theorem mo_at (i : Nat) (a : Int) (k : Nat) : (mo i a) k = if k = i then a else 0 := rfl
theorem mo_0 (a : Int) : mo 0 a = c a := rfl
theorem mo_succ (i : Nat) (a : Int) : mo (i + 1) a = sh (mo i a) := ext fun k => by
  cases k with
  | zero => simp [mo_at, sh_0]
  | succ k => simp [mo_at, sh_at]
theorem mo_sm (a b : Int) (k : Nat) : sm a (mo k b) = mo k (a * b) := ext fun i => by
  rw [sm_at, mo_at, mo_at]; split <;> simp
theorem mo_mul (i k : Nat) (a b : Int) : mo i a * mo k b = mo (i + k) (a * b) := by
  induction i with
  | zero => rw [mo_0, c_mul, mo_sm, Nat.zero_add]
  | succ i ih => rw [mo_succ, sh_mul, ih, ← mo_succ]; congr 1; omega
theorem mo_add (k : Nat) (a b : Int) : mo k a + mo k b = mo k (a + b) := ext fun i => by
  rw [add_at, mo_at, mo_at, mo_at]; split <;> simp
theorem mo_zero (k : Nat) : mo k 0 = c 0 := ext fun i => by
  rw [mo_at]; cases i <;> simp [c_0, c_at]
theorem mo_bd (k : Nat) (a : Int) : Bd (mo k a) (k + 1) := fun i hi => by rw [mo_at, if_neg (by omega)]
theorem co_snoc' (l : List Int) (a : Int) : co (l ++ [a]) = co l + mo l.length a := ext fun i => by
  rw [co_snoc, add_at, mo_at]
  by_cases h : i = l.length
  · subst h; rw [co_bd l _ (Nat.le_refl _)]; simp
  · simp [h]
theorem co_take_succ (hk : k < l.length) : co (l.take (k + 1)) = co (l.take k) + mo k l[k] := by
  rw [List.take_add_one, List.getElem?_eq_getElem hk]
  show co (l.take k ++ [l[k]]) = _
  rw [co_snoc', List.length_take, Nat.min_eq_left (by omega)]
theorem co_set (hk : k < l.length) (a : Int) : co (l.set k (l[k] + a)) = co l + mo k a := ext fun i => by
  rw [add_at, mo_at]
  by_cases h : i = k
  · subst h
    rw [co_at (by simpa using hk), co_at hk]; simp
  · rw [if_neg h]
    simp [co, List.getElem?_set, Ne.symm h]
theorem co_set' (hk : k < l.length) (a : Int) : co (l.set k a) = co l + mo k (a - l[k]) := by
  have := co_set hk (a - l[k])
  rwa [show l[k] + (a - l[k]) = a by omega] at this
theorem co_rep (n : Nat) : co (List.replicate n 0) = c 0 := ext fun i => by
  simp only [co, List.getD_eq_getElem?_getD, List.getElem?_replicate]
  cases i <;> (split <;> simp [c_0, c_at])
theorem co_map (f : Int → Int) (hf : f 0 = 0) (l : List Int) : co (l.map f) = fun i => f ((co l) i) := ext fun i => by
  simp only [co, List.getD_eq_getElem?_getD, List.getElem?_map]
  cases l[i]? <;> simp [hf]
theorem co_neg (l : List Int) : co (nf ((nf l).map (fun x => -x))) = -co l := by
  rw [co_nf, co_map _ (by simp), co_nf]; rfl
theorem co_mulr (l : List Int) (a : Int) : co (nf ((nf l).map (· * a))) = sm a (co l) := by
  rw [co_nf, co_map _ (by simp), co_nf]; exact ext fun i => Int.mul_comm _ _
theorem nm_len (h : Nm l) (hb : Bd (co l) n) : l.length ≤ n := by
  rcases Nat.lt_or_ge n l.length with hlt | hge
  · exfalso
    have h0 : l ≠ [] := fun e => by rw [e] at hlt; simp at hlt
    exact (nm_dg h h0).1 (hb _ (by omega))
  · exact hge
theorem pu_bd (hp : Bd p n) (hs : Bd s 2) : Bd (pu p s) n := by rw [pu_is hp]; exact cp_bd2 hs n p
/-- One coefficient more, of a polynomial at x + a. -/
theorem shift_step (b a : Int) (l : List Int) : pu (co (b :: l)) (xa a) = sh (pu (co l) (xa a)) + sm a (pu (co l) (xa a)) + c b := by
  have e : (co (b :: l)) 0 = b := rfl
  rw [pu_split (co_fn _), tl_co, xa_mul, e, add_comm, add_comm (sm a _)]
theorem pu_xc_at (a : Int) : ∀ (i : Nat) {p : Se}, Fn p → (pu p (xc a)) i = p i * a ^ i
  | 0, p, hp => by rw [pu_split hp, xc_mul, add_at, c_0, sh_0]; simp
  | i + 1, p, hp => by
    rw [pu_split hp, xc_mul, add_at, c_at, sh_at, sm_at, pu_xc_at a i hp.tl, tl_at, Int.zero_add, Int.pow_succ]
    grind
theorem co_mapIdx (f : Nat → Int → Int) (hf : ∀ k, f k 0 = 0) (l : List Int) : co (l.mapIdx f) = fun i => f i ((co l) i) := ext fun i => by
  simp only [co, List.getD_eq_getElem?_getD, List.getElem?_mapIdx]
  cases l[i]? <;> simp [hf]
theorem co_stretch (l : List Int) (a : Int) : co (nf ((nf l).mapIdx (fun k x => x * a ^ k))) = pu (co l) (xc a) := by
  rw [co_nf, co_mapIdx _ (by simp), co_nf]
  exact ext fun i => (pu_xc_at a i (co_fn l)).symm
/-- The list of a product. -/
theorem mul_nm {L : List Int} (hl : Nm l) (hm : Nm m) (h0 : l ≠ []) (h1 : m ≠ []) (hL : L.length = l.length + m.length - 1) (e : co L = co l * co m) : Nm L := by
  have d1 := nm_dg hl h0
  have d2 := nm_dg hm h1
  have d := d1.mul d2
  rw [← e] at d
  have k0 := List.length_pos_iff.2 h0
  have k1 := List.length_pos_iff.2 h1
  have hi : l.length - 1 + (m.length - 1) = L.length - 1 := by omega
  have hlt : L.length - 1 < L.length := by omega
  intro hh
  rw [hi] at d
  have h2 := d.1
  rw [co_at hlt] at h2
  rw [List.getLast?_eq_getElem?, List.getElem?_eq_getElem hlt] at hh
  exact h2 (by injection hh)
theorem co_take_all (h : l.length ≤ k) : co (l.take k) = co l := by rw [List.take_of_length_le h]
/-- One step of a product. -/
theorem mul_step (hi : i < l.length) (hk : k < m.length) : mo i l[i] * co (m.take (k + 1)) = mo i l[i] * co (m.take k) + mo (i + k) (l[i] * m[k]) := by
  rw [co_take_succ hk, mul_add, mo_mul]
theorem mul_round (hi : i < l.length) : co (l.take i) * q + mo i l[i] * q = co (l.take (i + 1)) * q := by
  rw [co_take_succ hi, add_mul]
end Se
end Go.Proofs.Ytnidohbbimfpjaa.MP
