/-
  the greatest common divisor of polynomials over the integers; the part with each root once.
-/
import Derived.Test.YtnidohbbimfpjaaVpol
namespace Go.Proofs.Ytnidohbbimfpjaa.MP
set_option linter.unusedVariables false
set_option linter.unusedSimpArgs false
namespace Se
variable {p q r s t g h : Se} {a b d e l : Int} {m n k i j : Nat}
/-- Every coefficient is divided by d. -/
def Ad (d : Int) (p : Se) : Prop := ∀ i, d ∣ p i
/-- A prime number. -/
def Pr (l : Int) : Prop := 2 ≤ l ∧ ∀ a b : Int, l ∣ a * b → l ∣ a ∨ l ∣ b
/-- A number's prime divisor. -/
theorem has_prime {n : Nat} (hn : 2 ≤ n) : ∃ l : Int, Pr l ∧ l ∣ (n : Int) := by
  induction n using Nat.strongRecOn with
  | ind n ih =>
    by_cases hd : ∃ d, 2 ≤ d ∧ d < n ∧ d ∣ n
    · obtain ⟨d, h1, h2, h3⟩ := hd
      obtain ⟨l, h4, h5⟩ := ih d h2 h1
      exact ⟨l, h4, Int.dvd_trans h5 (Int.natCast_dvd_natCast.2 h3)⟩
    · refine ⟨n, ⟨by omega, fun a b hab => ?_⟩, Int.dvd_refl _⟩
      by_cases ha : (n : Int) ∣ a
      · exact .inl ha
      · refine .inr ?_
        have h1 : Nat.gcd n a.natAbs = 1 := by
          have h2 := Nat.gcd_dvd_left n a.natAbs
          have h3 := Nat.gcd_dvd_right n a.natAbs
          have h4 : 0 < Nat.gcd n a.natAbs := Nat.gcd_pos_of_pos_left _ (by omega)
          have h5 := Nat.le_of_dvd (by omega) h2
          rcases Nat.lt_or_ge (Nat.gcd n a.natAbs) 2 with h6 | h6
          · omega
          · rcases Nat.lt_or_ge (Nat.gcd n a.natAbs) n with h7 | h7
            · exact absurd ⟨_, h6, h7, h2⟩ hd
            · have h8 : Nat.gcd n a.natAbs = n := by omega
              rw [h8] at h3
              exact absurd (Int.ofNat_dvd_left.2 h3) ha
        have h2 : n ∣ a.natAbs * b.natAbs := by rw [← Int.natAbs_mul]; exact Int.ofNat_dvd_left.1 hab
        exact Int.ofNat_dvd_left.2 (Nat.Coprime.dvd_of_dvd_mul_left h1 h2)
theorem Ad.sm (h : Ad d p) : Ad d (Se.sm a p) := fun i => Int.dvd_trans (h i) (Int.dvd_mul_left _ _)
theorem Ad.of_sm : Ad a (Se.sm a p) := fun i => Int.dvd_mul_right _ _
theorem Ad.tl (h : Ad d p) : Ad d (Se.tl p) := fun i => h (i + 1)
theorem Ad.mul (h : Ad d p) (q : Se) : Ad d (p * q) := by
  intro k
  induction k generalizing p with
  | zero => exact Int.dvd_trans (h 0) (Int.dvd_mul_right _ _)
  | succ k ih => rw [mul_at]; exact Int.dvd_add (Int.dvd_trans (h 0) (Int.dvd_mul_right _ _)) (ih h.tl)
theorem Ad.trans (hd : e ∣ d) (h : Ad d p) : Ad e p := fun i => Int.dvd_trans hd (h i)
/-- What is divided by d is d times another one. -/
theorem Ad.div (h : Ad d p) (hp : Fn p) : ∃ s, Fn s ∧ p = Se.sm d s := by
  by_cases h0 : d = 0
  · refine ⟨Se.c 0, Fn.c 0, ext fun i => ?_⟩
    have := h i
    rw [h0, Int.zero_dvd] at this
    rw [this, h0, sm_at, Int.zero_mul]
  · obtain ⟨n, hb⟩ := hp
    refine ⟨fun i => p i / d, ⟨n, fun i hi => ?_⟩, ext fun i => ?_⟩
    · show p i / d = 0
      rw [hb i hi, Int.zero_ediv]
    · exact (Int.mul_ediv_cancel' (h i)).symm
/-- At the first coefficients that l doesn't divide, the product's isn't divided. -/
theorem lead_mod (hi : ∀ k, k < i → l ∣ p k) (hj : ∀ k, k < j → l ∣ q k) : l ∣ (p * q) (i + j) - p i * q j := by
  induction i generalizing p with
  | zero =>
    rw [Nat.zero_add]
    induction j generalizing q with
    | zero => rw [mul_0, Int.sub_self]; exact Int.dvd_zero l
    | succ j ih =>
      rw [mul_at']
      have h1 := ih (q := tl q) fun k hk => hj (k + 1) (by omega)
      have h2 := Int.dvd_trans (hj 0 (by omega)) (Int.dvd_mul_right (q 0) (p (j + 1)))
      have := Int.dvd_add h2 h1
      rw [tl_at] at this
      rwa [show q 0 * p (j + 1) + ((p * tl q) j - p 0 * q (j + 1)) = q 0 * p (j + 1) + (p * tl q) j - p 0 * q (j + 1) by omega] at this
  | succ i ih =>
    rw [show i + 1 + j = i + j + 1 by omega, mul_at]
    have h1 := ih (p := tl p) fun k hk => hi (k + 1) (by omega)
    have h2 := Int.dvd_trans (hi 0 (by omega)) (Int.dvd_mul_right (p 0) (q (i + j + 1)))
    have := Int.dvd_add h2 h1
    rw [tl_at] at this
    rwa [show p 0 * q (i + j + 1) + ((tl p * q) (i + j) - p (i + 1) * q j) = p 0 * q (i + j + 1) + (tl p * q) (i + j) - p (i + 1) * q j by omega] at this
theorem first_not {P : Nat → Prop} (h : ∃ i, ¬ P i) : ∃ i, ¬ P i ∧ ∀ k, k < i → P k := by
  obtain ⟨i, h⟩ := h
  induction i using Nat.strongRecOn with
  | ind i ih =>
    by_cases hk : ∃ k, k < i ∧ ¬ P k
    · obtain ⟨k, h1, h2⟩ := hk
      exact ih k h1 h2
    · exact ⟨i, h, fun k hk2 => Classical.byContradiction fun h3 => hk ⟨k, hk2, h3⟩⟩
theorem prime_ad (hl : Pr l) (h : Ad l (p * q)) : Ad l p ∨ Ad l q := by
  refine Classical.byContradiction fun hn => ?_
  have h1 : ¬ Ad l p := fun k => hn (.inl k)
  have h2 : ¬ Ad l q := fun k => hn (.inr k)
  obtain ⟨i, hi, hi2⟩ := first_not (Classical.not_forall.1 h1)
  obtain ⟨j, hj, hj2⟩ := first_not (Classical.not_forall.1 h2)
  have h3 := lead_mod hi2 hj2
  have h4 := Int.dvd_sub (h (i + j)) h3
  rw [show (p * q) (i + j) - ((p * q) (i + j) - p i * q j) = p i * q j by omega] at h4
  rcases hl.2 _ _ h4 with h5 | h5
  · exact hi h5
  · exact hj h5
/-- No number but 1 and -1 divides all. -/
def Pm (p : Se) : Prop := ∀ l, Pr l → ¬ Ad l p
theorem Pm.ne (h : Pm p) : p ≠ Se.c 0 := by
  rintro rfl
  obtain ⟨l, hl, _⟩ := has_prime (n := 2) (by omega)
  exact h l hl fun i => by cases i <;> exact Int.dvd_zero l
theorem Pm.mul (hp : Pm p) (hq : Pm q) : Pm (p * q) := fun l hl h => by
  rcases prime_ad hl h with k | k
  · exact hp l hl k
  · exact hq l hl k
theorem Pm.neg (h : Pm p) : Pm (-p) := fun l hl k => h l hl fun i => by have := k i; rwa [neg_at, Int.dvd_neg] at this
/-- Gauss. -/
theorem gauss_nat : ∀ {n : Nat}, 0 < n → ∀ {t}, Pm g → Ad n (g * t) → Fn t → Ad n t := by
  intro n
  induction n using Nat.strongRecOn with
  | ind n ih =>
    intro hn t hg h ht
    rcases Nat.lt_or_ge n 2 with h2 | h2
    · have : n = 1 := by omega
      subst this
      exact fun i => Int.one_dvd _
    · obtain ⟨l, hl, k, hk⟩ := has_prime h2
      have hl2 := hl.1
      have hk0 : 0 < k := by
        rcases Int.lt_or_le 0 k with h | h
        · exact h
        · have := Int.mul_nonpos_of_nonneg_of_nonpos (show 0 ≤ l by omega) h; omega
      obtain ⟨κ, rfl⟩ : ∃ κ : Nat, k = κ := ⟨k.toNat, by omega⟩
      have hlt : κ < n := by
        have : 2 * (κ : Int) ≤ l * κ := Int.mul_le_mul_of_nonneg_right hl2 (by omega)
        omega
      rcases prime_ad hl (h.trans ⟨κ, hk⟩) with h3 | h3
      · exact absurd h3 (hg l hl)
      · obtain ⟨t', ht', rfl⟩ := h3.div ht
        rw [mul_sm] at h
        have h4 : Ad κ (g * t') := fun i => by
          have := h i
          rw [hk, sm_at] at this
          exact Int.dvd_of_mul_dvd_mul_left (by omega) this
        have h5 := ih κ hlt (by omega) hg h4 ht'
        intro i
        rw [hk, sm_at]
        exact Int.mul_dvd_mul_left l (h5 i)
theorem gauss (hd : d ≠ 0) (hg : Pm g) (h : Ad d (g * t)) (ht : Fn t) : Ad d t := by
  have h1 : Ad (d.natAbs : Int) (g * t) := h.trans (Int.natAbs_dvd.2 (Int.dvd_refl d))
  exact (gauss_nat (by omega) hg h1 ht).trans (Int.dvd_natAbs.2 (Int.dvd_refl d))
/-- A primitive one that divides a number's multiple divides. -/
theorem Dv.of_sm (hd : d ≠ 0) (hg : Pm g) (h : Dv g (Se.sm d s)) : Dv g s := by
  obtain ⟨t, ht, e⟩ := h
  have h1 : Ad d (g * t) := e ▸ Ad.of_sm
  obtain ⟨t', ht', rfl⟩ := (gauss hd hg h1 ht).div ht
  exact ⟨t', ht', sm_cancel hd (by rw [e, mul_sm])⟩
/-- What a number times a primitive one divides. -/
theorem dv_parts (ha : a ≠ 0) (hb : b ≠ 0) (hg : Pm g) (hh : Pm h) (hfh : Fn h) : Dv (Se.sm a g) (Se.sm b h) ↔ a ∣ b ∧ Dv g h := by
  constructor
  · rintro ⟨t, ht, e⟩
    have h1 : Dv g (Se.sm b h) := ⟨Se.sm a t, ht.sm, by rw [e, sm_mul, mul_sm]⟩
    have h2 := h1.of_sm hb hg
    refine ⟨?_, h2⟩
    have h3 : Ad a (h * Se.c b) := by rw [mul_c, e, sm_mul]; exact Ad.of_sm
    exact gauss ha hh h3 (Fn.c b) 0
  · rintro ⟨⟨k, rfl⟩, t, ht, rfl⟩
    exact ⟨Se.sm k t, ht.sm, by rw [mul_sm, sm_mul, sm_sm, Int.mul_comm]⟩
/-- The greatest common divisor of the coefficients. -/
def Ct (d : Int) (p : Se) : Prop := 0 ≤ d ∧ ∀ e, Ad e p ↔ e ∣ d
theorem Ct.uniq (h : Ct d p) (h2 : Ct e p) : d = e :=
  Int.dvd_antisymm h.1 h2.1 ((h2.2 d).1 ((h.2 d).2 (Int.dvd_refl d))) ((h.2 e).1 ((h2.2 e).2 (Int.dvd_refl e)))
theorem Ct.ex (hp : Fn p) : ∃ d, Ct d p := by
  refine Fn.ind (P := fun p => ∃ d, Ct d p) ⟨0, by omega, fun e => ⟨fun _ => Int.dvd_zero e, fun _ i => by cases i <;> exact Int.dvd_zero e⟩⟩ (fun p hp ih => ?_) hp
  obtain ⟨d, h1, h2⟩ := ih
  refine ⟨(Int.gcd (p 0) d : Nat), by omega, fun e => ⟨fun h => ?_, fun h i => ?_⟩⟩
  · exact Int.dvd_coe_gcd (h 0) ((h2 e).1 h.tl)
  · cases i with
    | zero => exact Int.dvd_trans h (Int.gcd_dvd_left _ _)
    | succ i => exact (h2 e).2 (Int.dvd_trans h (Int.gcd_dvd_right _ _)) i
theorem Ct.ne (h : Ct d p) (h0 : p ≠ Se.c 0) : d ≠ 0 := fun e => h0 (ext fun i => by
  have := (h.2 0).2 (e ▸ Int.dvd_refl _) i
  rw [Int.zero_dvd.1 this]; cases i <;> rfl)
/-- Each is its content times a primitive one. -/
theorem Ct.div (h : Ct d p) (hp : Fn p) (h0 : p ≠ Se.c 0) : ∃ s, Fn s ∧ Pm s ∧ p = Se.sm d s := by
  have hd := h.ne h0
  obtain ⟨s, hs, e⟩ := ((h.2 d).2 (Int.dvd_refl d)).div hp
  refine ⟨s, hs, fun l hl hk => ?_, e⟩
  have h1 : Ad (d * l) p := fun i => by rw [e, sm_at]; exact Int.mul_dvd_mul_left d (hk i)
  have h2 := (h.2 _).1 h1
  obtain ⟨k, hk⟩ := h2
  have h3 : l * k = 1 := Int.eq_of_mul_eq_mul_left hd (by rw [← Int.mul_assoc, ← hk, Int.mul_one])
  have h4 : l ∣ 1 := ⟨k, h3.symm⟩
  have := Int.le_of_dvd (by omega) h4
  have := hl.1
  omega
theorem Ct.of (hd : 0 ≤ d) (hs : Pm s) (hf : Fn s) : Ct d (Se.sm d s) := by
  refine ⟨hd, fun e => ⟨fun h => ?_, fun h => Ad.of_sm.trans h⟩⟩
  by_cases h0 : e = 0
  · subst h0
    have h1 := fun i => Int.zero_dvd.1 (h i)
    refine Classical.byContradiction fun k => hs.ne (sm_cancel (a := d) (fun e => k (by rw [e]; exact Int.dvd_refl 0)) (ext fun i => ?_))
    rw [h1 i, sm_at]
    cases i <;> simp [Se.c]
  · have h1 : Ad e (s * Se.c d) := by rw [mul_c]; exact h
    exact gauss h0 hs h1 (Fn.c d) 0
/-- A product of primitive ones' numbers. -/
theorem prim_split (hp : Fn p) (h0 : p ≠ Se.c 0) : ∃ d s, d ≠ 0 ∧ Fn s ∧ Pm s ∧ p = Se.sm d s := by
  obtain ⟨d, h⟩ := Ct.ex hp
  obtain ⟨s, h1, h2, h3⟩ := h.div hp h0
  exact ⟨d, s, h.ne h0, h1, h2, h3⟩
end Se
end Go.Proofs.Ytnidohbbimfpjaa.MP
namespace Go.Proofs.Ytnidohbbimfpjaa.MP
set_option linter.unusedVariables false
set_option linter.unusedSimpArgs false
namespace Se
variable {p q r s t g h f v w u : Se} {a b d e l : Int} {m n k i j : Nat}
/-- A number's multiple of p is q times something and a rest. -/
theorem pseudo (hq : Dg q n) (hp : Fn p) : ∃ (L : Int) (t r : Se), L ≠ 0 ∧ Fn t ∧ Bd r n ∧ Se.sm L p = q * t + r := by
  obtain ⟨m, hb⟩ := hp
  induction m generalizing p with
  | zero => exact ⟨1, Se.c 0, p, by omega, Fn.c 0, hb.le (by omega), by rw [sm_one, mul_zero, zero_add]⟩
  | succ m ih =>
    rcases Nat.lt_or_ge m n with h | h
    · exact ⟨1, Se.c 0, p, by omega, Fn.c 0, hb.le (by omega), by rw [sm_one, mul_zero, zero_add]⟩
    · -- take the lead away
      obtain ⟨k, rfl⟩ : ∃ k, m = n + k := ⟨m - n, by omega⟩
      let x : Se := fun i => if i = k then p (n + k) else 0
      have hx : Bd x (k + 1) := fun i hi => if_neg (by omega)
      have hx0 : x k = p (n + k) := if_pos rfl
      have ⟨h1, h2⟩ := mul_bd hq.2 hx
      have hb2 : Bd (Se.sm (q n) p - q * x) (n + k) := fun i hi => by
        rw [sub_at, sm_at]
        rcases Nat.eq_or_lt_of_le hi with e | e
        · rw [← e, h2, hx0]; omega
        · rw [hb i e, h1 i e]; omega
      obtain ⟨L, t, r, h3, h4, h5, h6⟩ := ih hb2
      refine ⟨L * q n, t + Se.sm L x, r, Int.mul_ne_zero h3 hq.1, h4.add (Fn.sm ⟨_, hx⟩), h5, ?_⟩
      rw [← sm_sm, mul_add, mul_sm]
      refine ext fun i => ?_
      have := congrArg (fun f => f i) h6
      simp only [sm_at, add_at, sub_at] at this ⊢
      grind
/-- The greatest common divisor. -/
structure Gc (d p q : Se) : Prop where
  fn : Fn d
  left : Dv d p
  right : Dv d q
  gr : ∀ h, Fn h → Dv h p → Dv h q → Dv h d
theorem Gc.symm (h : Gc g p q) : Gc g q p := ⟨h.fn, h.right, h.left, fun x hx h1 h2 => h.gr x hx h2 h1⟩
theorem Dv.pm (h : Dv p q) (hq : Pm q) : Pm p := fun l hl k => hq l hl (by obtain ⟨t, _, rfl⟩ := h; exact k.mul t)
theorem gc_prim : ∀ (n : Nat) {p q : Se}, Fn p → Pm p → Bd q n → (q ≠ Se.c 0 → Pm q) → ∃ d, Fn d ∧ Pm d ∧ Dv d p ∧ Dv d q ∧ ∀ h, Fn h → Pm h → Dv h p → Dv h q → Dv h d := by
  intro n
  induction n using Nat.strongRecOn with
  | ind n ih =>
    intro p q hp hpm hq hqm
    by_cases h0 : q = Se.c 0
    · subst h0
      exact ⟨p, hp, hpm, Dv.refl p, Dv.zero, fun h _ _ h1 _ => h1⟩
    · have hqm := hqm h0
      obtain ⟨k, hk, hkn⟩ := hq.dg h0
      obtain ⟨L, t, r, h1, h2, h3, h4⟩ := pseudo hk hp
      by_cases hr : r = Se.c 0
      · rw [hr, add_zero] at h4
        exact ⟨q, hk.fn, hqm, Dv.of_sm h1 hqm (h4 ▸ Dv.right h2), Dv.refl q, fun h _ _ _ h => h⟩
      · obtain ⟨e, s, h5, h6, h7, h8⟩ := prim_split ⟨_, h3⟩ hr
        have hb : Bd s k := fun i hi => by
          have := h3 i hi
          rw [h8, sm_at] at this
          rcases Int.mul_eq_zero.1 this with h | h
          · exact absurd h h5
          · exact h
        obtain ⟨d, d1, d2, d3, d4, d5⟩ := ih k hkn hk.fn hqm hb fun _ => h7
        refine ⟨d, d1, d2, ?_, d3, fun h x1 x2 x3 x4 => d5 h x1 x2 x4 ?_⟩
        · refine Dv.of_sm h1 d2 ?_
          rw [h4, h8]
          exact (d3.mul h2).add d4.sm
        · refine Dv.of_sm h5 x2 ?_
          have e2 : Se.sm e s = Se.sm L p - q * t := by
            rw [← h8, h4]
            refine ext fun i => ?_
            simp only [add_at, sub_at]; omega
          rw [e2]
          exact x3.sm.sub (x4.mul h2)
theorem Gc.ex (hp : Fn p) (hq : Fn q) : ∃ d, Gc d p q := by
  by_cases h1 : p = Se.c 0
  · subst h1; exact ⟨q, hq, Dv.zero, Dv.refl q, fun _ _ _ h => h⟩
  by_cases h2 : q = Se.c 0
  · subst h2; exact ⟨p, hp, Dv.refl p, Dv.zero, fun _ _ h _ => h⟩
  obtain ⟨a, s, a1, a2, a3, rfl⟩ := prim_split hp h1
  obtain ⟨b, t, b1, b2, b3, rfl⟩ := prim_split hq h2
  obtain ⟨n, hn⟩ := b2
  obtain ⟨d, d1, d2, d3, d4, d5⟩ := gc_prim n a2 a3 hn fun _ => b3
  have b2 : Fn t := ⟨n, hn⟩
  have hg : ((Int.gcd a b : Nat) : Int) ≠ 0 := by
    have := Int.gcd_pos_of_ne_zero_left b a1
    omega
  refine ⟨Se.sm (Int.gcd a b) d, d1.sm, (dv_parts hg a1 d2 a3 a2).2 ⟨Int.gcd_dvd_left _ _, d3⟩, (dv_parts hg b1 d2 b3 b2).2 ⟨Int.gcd_dvd_right _ _, d4⟩, fun h x1 x2 x3 => ?_⟩
  have hne : h ≠ Se.c 0 := by
    rintro rfl
    obtain ⟨k, _, e⟩ := x2
    exact sm_ne a1 a3.ne (by rw [e, zero_mul])
  obtain ⟨c, u, c1, c2, c3, rfl⟩ := prim_split x1 hne
  have y1 := (dv_parts c1 a1 c3 a3 a2).1 x2
  have y2 := (dv_parts c1 b1 c3 b3 b2).1 x3
  exact (dv_parts c1 hg c3 d2 d1).2 ⟨Int.dvd_coe_gcd y1.1 y2.1, d5 u c2 c3 y1.2 y2.2⟩
theorem unit_of (hs : Fn s) (ht : Fn t) (e : s * t = Se.c 1) : s = Se.c 1 ∨ s = Se.c (-1) := by
  have h1 : Se.c 1 ≠ Se.c 0 := fun e => by have := c_inj e; omega
  have hs0 : s ≠ Se.c 0 := fun k => h1 (by rw [← e, k, zero_mul])
  have ht0 : t ≠ Se.c 0 := fun k => h1 (by rw [← e, k, mul_zero])
  obtain ⟨m, hm⟩ := hs.dg hs0; obtain ⟨n, hn⟩ := ht.dg ht0
  have h2 : Dg (Se.c 1) 0 := ⟨by simp [Se.c], Bd.c 1⟩
  have h3 := (e ▸ hm.mul hn).uniq h2
  obtain rfl : m = 0 := by omega
  have e1 : s = Se.c (s 0) := by conv => lhs; rw [split s, hm.2.tl.zero, sh_zero, add_zero]
  have e2 := congrArg (fun f => f 0) e
  simp only [mul_0, Se.c_0] at e2
  have e3 : (s 0).natAbs = 1 := Nat.dvd_one.1 (Int.natAbs_dvd_natAbs.2 ⟨t 0, by rw [e2]⟩)
  rcases (show s 0 = 1 ∨ s 0 = -1 by omega) with h | h
  · exact .inl (by rw [e1, h])
  · exact .inr (by rw [e1, h])
/-- Two that divide each other. -/
theorem assoc (hp : Fn p) (hq : Fn q) (h : Dv p q) (h2 : Dv q p) : q = p ∨ q = -p := by
  obtain ⟨s, hs, e⟩ := h; obtain ⟨t, ht, e2⟩ := h2
  by_cases h0 : p = Se.c 0
  · left; rw [e, h0, zero_mul]
  · have h1 : s * t = Se.c 1 := mul_cancel hp h0 (hs.mul ht) (Fn.c 1) (by rw [← mul_assoc, ← e, ← e2, mul_one])
    rcases unit_of hs ht h1 with k | k
    · left; rw [e, k, mul_one]
    · right; rw [e, k, mul_c, sm_neg]
theorem Gc.uniq (h : Gc g p q) (h2 : Gc f p q) : f = g ∨ f = -g := assoc h.fn h2.fn (h2.gr g h.fn h.left h.right) (h.gr f h2.fn h2.left h2.right)
/-- With leads above 0. -/
theorem Gc.same (h : Gc g p q) (h2 : Gc f p q) (h3 : Dg g m) (h4 : 0 < g m) (h5 : Dg f n) (h6 : 0 < f n) : f = g ∧ n = m := by
  rcases h.uniq h2 with k | k
  · subst k; exact ⟨rfl, h5.uniq h3⟩
  · have : n = m := h5.uniq (k ▸ ⟨by rw [neg_at]; have := h3.1; omega, h3.2.neg⟩)
    subst this
    rw [k, neg_at] at h6
    omega
theorem Gc.mul (h : Gc g p q) (hp : Fn p) (hq : Fn q) (hr : Fn r) (h0 : r ≠ Se.c 0) : Gc (g * r) (p * r) (q * r) := by
  obtain ⟨e, he⟩ := Gc.ex (hp.mul hr) (hq.mul hr)
  obtain ⟨u, hu, e1⟩ := he.gr r hr (Dv.left hp) (Dv.left hq)
  have h1 : Dv u p := Dv.can hr h0 hu hp (by rw [← e1, mul_comm r p]; exact he.left)
  have h2 : Dv u q := Dv.can hr h0 hu hq (by rw [← e1, mul_comm r q]; exact he.right)
  have h3 : Dv e (g * r) := by rw [e1, mul_comm r u]; exact (h.gr u hu h1 h2).mul2 r
  exact ⟨h.fn.mul hr, h.left.mul2 r, h.right.mul2 r, fun x hx x1 x2 => (he.gr x hx x1 x2).trans h3⟩
/-- Nothing in common. -/
theorem euclid (h : Gc (Se.c 1) f p) (hf : Fn f) (hp : Fn p) (hq : Fn q) (hd : Dv f (p * q)) : Dv f q := by
  by_cases h0 : q = Se.c 0
  · exact h0 ▸ Dv.zero
  · have := (h.mul hf hp hq h0).gr f hf (Dv.right hq) hd
    rwa [one_mul] at this
/-- What is left has nothing in common. -/
theorem Gc.left_one (h : Gc g (p * g) (q * g)) (hp : Fn p) (hq : Fn q) (h0 : g ≠ Se.c 0) : Gc (Se.c 1) p q := by
  obtain ⟨e, he⟩ := Gc.ex hp hq
  have h1 := he.mul hp hq h.fn h0
  have h2 : Dv e (Se.c 1) := Dv.can h.fn h0 he.fn (Fn.c 1) (by rw [mul_one, mul_comm]; exact h.gr _ h1.fn h1.left h1.right)
  exact ⟨Fn.c 1, ⟨p, hp, (one_mul p).symm⟩, ⟨q, hq, (one_mul q).symm⟩, fun x hx x1 x2 => (he.gr x hx x1 x2).trans h2⟩
end Se
end Go.Proofs.Ytnidohbbimfpjaa.MP
namespace Go.Proofs.Ytnidohbbimfpjaa.MP
set_option linter.unusedVariables false
set_option linter.unusedSimpArgs false
namespace Se
variable {p q r s t g h f v w u : Se} {a b d e l : Int} {m n k i j : Nat}
/-- s to the power n. -/
def pw (s : Se) : Nat → Se
  | 0 => c 1
  | n + 1 => s * pw s n
theorem Fn.pw (hs : Fn s) : ∀ n, Fn (Se.pw s n)
  | 0 => Fn.c 1
  | n + 1 => hs.mul (Fn.pw hs n)
theorem pw_add (s : Se) (m n : Nat) : pw s (m + n) = pw s m * pw s n := by
  induction m with
  | zero => rw [Nat.zero_add, pw, one_mul]
  | succ m ih => rw [show m + 1 + n = m + n + 1 by omega, pw, pw, ih, mul_assoc]
/-- Of degree 1 at least, and of no two such. -/
structure Ir (f : Se) : Prop where
  fn : Fn f
  pm : Pm f
  pos : ∃ k, Dg f (k + 1)
  irr : ∀ a b, Fn a → Fn b → f = a * b → Dg a 0 ∨ Dg b 0
theorem const_of (h : Dg s 0) : s = Se.c (s 0) := by conv => lhs; rw [split s, h.2.tl.zero, sh_zero, add_zero]
theorem one_of (h : Dg s 0) (hp : Pm s) : s = Se.c 1 ∨ s = Se.c (-1) := by
  have e := const_of h
  rcases Nat.lt_or_ge (s 0).natAbs 2 with h2 | h2
  · have := h.1
    rcases (show s 0 = 1 ∨ s 0 = -1 by omega) with k | k
    · left; rw [e, k]
    · right; rw [e, k]
  · obtain ⟨l, hl, hd⟩ := has_prime h2
    refine absurd (fun i => ?_) (hp l hl)
    rw [e]
    cases i with
    | zero => exact Int.dvd_natAbs.1 hd
    | succ i => exact Int.dvd_zero l
theorem mul_neg_one (p : Se) : p * Se.c (-1) = -p := by rw [mul_c, sm_neg]
theorem Dv.of_neg (h : Dv p (-q)) : Dv p q := by
  have := h.neg
  rwa [show -(-q) = q from ext fun i => by simp only [neg_at]; omega] at this
theorem Dv.neg_left (h : Dv p q) : Dv (-p) q := by
  obtain ⟨t, ht, rfl⟩ := h
  exact ⟨-t, ht.neg, by rw [neg_mul, mul_neg]; exact ext fun i => by simp only [neg_at]; omega⟩
theorem Dv.ne (h : Dv p q) (h0 : q ≠ Se.c 0) : p ≠ Se.c 0 := by
  rintro rfl
  obtain ⟨t, _, rfl⟩ := h
  exact h0 (zero_mul t)
theorem has_ir (hw : Fn w) (hm : Pm w) (hd : Dg w (n + 1)) : ∃ f, Ir f ∧ Dv f w := by
  induction n using Nat.strongRecOn generalizing w with
  | ind n ih =>
    by_cases hk : ∃ a b k, Fn a ∧ Fn b ∧ w = a * b ∧ Dg a (k + 1) ∧ k < n
    · obtain ⟨a, b, k, h1, h2, h3, h4, h5⟩ := hk
      have hd : Dv a w := ⟨b, h2, h3⟩
      obtain ⟨f, h6, h7⟩ := ih k h5 h1 (hd.pm hm) h4
      exact ⟨f, h6, h7.trans hd⟩
    · refine ⟨w, ⟨hw, hm, ⟨n, hd⟩, fun a b ha hb e => ?_⟩, Dv.refl w⟩
      have ha0 : a ≠ Se.c 0 := fun k => hd.ne (by rw [e, k, zero_mul])
      have hb0 : b ≠ Se.c 0 := fun k => hd.ne (by rw [e, k, mul_zero])
      obtain ⟨x, hx⟩ := ha.dg ha0; obtain ⟨y, hy⟩ := hb.dg hb0
      have hxy := (e ▸ hx.mul hy).uniq hd
      cases x with
      | zero => exact .inl hx
      | succ x =>
        cases y with
        | zero => exact .inr hy
        | succ y => exact absurd ⟨a, b, x, ha, hb, e, hx, by omega⟩ hk
/-- An irreducible one is prime. -/
theorem Ir.prime (hf : Ir f) (hp : Fn p) (hq : Fn q) (h : Dv f (p * q)) : Dv f p ∨ Dv f q := by
  by_cases hk : Dv f p
  · exact .inl hk
  · refine .inr (euclid ?_ hf.fn hp hq h)
    refine ⟨Fn.c 1, ⟨f, hf.fn, (one_mul f).symm⟩, ⟨p, hp, (one_mul p).symm⟩, fun x hx x1 x2 => ?_⟩
    obtain ⟨b, hb, e⟩ := x1
    rcases hf.irr x b hx hb e with k | k
    · rcases one_of k (Dv.pm ⟨b, hb, e⟩ hf.pm) with k | k
      · rw [k]; exact Dv.refl _
      · rw [k]; exact ⟨Se.c (-1), Fn.c _, by rw [c_mul, c_sm]; rfl⟩
    · rcases one_of k (Dv.pm ⟨x, hx, by rw [e, mul_comm]⟩ hf.pm) with k | k
      · rw [k, mul_one] at e; exact absurd (e ▸ x2) hk
      · rw [k, mul_neg_one] at e; exact absurd (e ▸ x2.neg_left) hk
theorem Dg.dr (h : Dg p (n + 1)) : Dg (Se.dr p) n := by
  refine ⟨?_, fun i hi => ?_⟩
  · rw [dr_at]; exact Int.mul_ne_zero (by omega) h.1
  · rw [dr_at, h.2 _ (by omega), Int.mul_zero]
theorem Ir.not_dr (hf : Ir f) : ¬ Dv f (Se.dr f) := fun h => by
  obtain ⟨k, hk⟩ := hf.pos
  have := h.le hk hk.dr
  omega
theorem Ir.ne_zero (hf : Ir f) : f ≠ Se.c 0 := by obtain ⟨k, hk⟩ := hf.pos; exact hk.ne
/-- How often an irreducible one divides. -/
theorem Ir.often (hf : Ir f) (hw : Fn w) (h0 : w ≠ Se.c 0) : ∃ n v, Fn v ∧ w = pw f n * v ∧ ¬ Dv f v := by
  obtain ⟨m, hm⟩ := hw.dg h0
  induction m using Nat.strongRecOn generalizing w with
  | ind m ih =>
    by_cases hd : Dv f w
    · obtain ⟨t, ht, rfl⟩ := hd
      have ht0 : t ≠ Se.c 0 := fun k => h0 (by rw [k, mul_zero])
      obtain ⟨j, hj⟩ := ht.dg ht0
      obtain ⟨k, hk⟩ := hf.pos
      have := (hk.mul hj).uniq hm
      obtain ⟨n, v, h1, h2, h3⟩ := ih j (by omega) ht ht0 hj
      exact ⟨n + 1, v, h1, by rw [h2, pw, mul_assoc], h3⟩
    · exact ⟨0, w, hw, by rw [pw, one_mul], hd⟩
theorem dr_pw (f : Se) (n : Nat) : dr (pw f (n + 1)) = pw f n * sm ((n : Int) + 1) (dr f) := by
  induction n with
  | zero => rw [show pw f (0 + 1) = f * c 1 from rfl, show pw f 0 = c 1 from rfl, mul_one, one_mul]; exact (sm_one _).symm
  | succ n ih =>
    rw [pw, dr_mul, ih]
    have : f * (pw f n * sm ((n : Int) + 1) (dr f)) = pw f (n + 1) * sm ((n : Int) + 1) (dr f) := by rw [pw, mul_assoc]
    rw [this, mul_comm (dr f), show (((n + 1 : Nat) : Int) + 1) = 1 + ((n : Int) + 1) by omega, add_sm _ 1, mul_add, sm_one]
/-- What is left of w without what it has in common with its derivative: an irreducible one that divides w divides it once. -/
theorem simple_once (hf : Ir f) (hw : Fn w) (h0 : w ≠ Se.c 0) (hg : Gc g w (dr w)) (hs : Fn s) (e : w = s * g) (hfw : Dv f w) : ∃ s1, Fn s1 ∧ s = f * s1 ∧ ¬ Dv f s1 := by
  obtain ⟨n, v, hv, e1, hn⟩ := hf.often hw h0
  cases n with
  | zero => rw [pw, one_mul] at e1; exact absurd (e1 ▸ hfw) hn
  | succ n =>
    have hp := hf.fn.pw n
    have hp0 : pw f n ≠ c 0 := fun k => h0 (by rw [e1, pw, k, mul_zero, zero_mul])
    have ed : dr w = pw f n * (sm ((n : Int) + 1) (dr f) * v + f * dr v) := by
      rw [e1, dr_mul, dr_pw, mul_add, pw]; ac_rfl
    have hx : Fn (sm ((n : Int) + 1) (dr f) * v + f * dr v) := (hf.fn.dr.sm.mul hv).add (hf.fn.mul hv.dr)
    have hnx : ¬ Dv f (sm ((n : Int) + 1) (dr f) * v + f * dr v) := fun h => by
      have h1 : Dv f (sm ((n : Int) + 1) (dr f * v)) := by
        have := h.sub (Dv.right (p := f) hv.dr)
        rwa [show sm ((n : Int) + 1) (dr f) * v + f * dr v - f * dr v = sm ((n : Int) + 1) (dr f * v) from ext fun i => by rw [sm_mul]; simp only [sub_at, add_at]; omega] at this
      rcases hf.prime hf.fn.dr hv (h1.of_sm (by omega) hf.pm) with k | k
      · exact hf.not_dr k
      · exact hn k
    obtain ⟨u, hu, eg⟩ := hg.gr (pw f n) hp ⟨f * v, hf.fn.mul hv, by rw [e1, pw]; ac_rfl⟩ ⟨_, hx, ed⟩
    have hnu : ¬ Dv f u := fun h => hnx (Dv.can hp hp0 hf.fn hx (by
      rw [← ed]
      refine Dv.trans ?_ hg.right
      rw [eg, mul_comm (pw f n) f, mul_comm (pw f n) u]
      exact h.mul2 _))
    have e2 : f * v = s * u := mul_cancel hp hp0 (hf.fn.mul hv) (hs.mul hu) (by
      have : w = w := rfl
      rw [e1, pw] at this
      calc pw f n * (f * v) = f * pw f n * v := by ac_rfl
        _ = w := by rw [e1, pw]
        _ = pw f n * (s * u) := by rw [e, eg]; ac_rfl)
    rcases hf.prime hs hu ⟨v, hv, e2.symm⟩ with k | k
    · obtain ⟨s1, hs1, rfl⟩ := k
      refine ⟨s1, hs1, rfl, fun k => hn ?_⟩
      have : v = s1 * u := mul_cancel hf.fn hf.ne_zero hv (hs1.mul hu) (by rw [e2, mul_assoc])
      rw [this]
      exact k.mul hu
    · exact absurd k hnu
/-- Each divisor divides some power of what is left. -/
theorem simple_power (hw : Fn w) (hm : Pm w) (hg : Gc g w (dr w)) (hs : Fn s) (e : w = s * g) : ∀ (n : Nat) {z : Se}, Dg z n → Dv z w → Dv z (pw s n) := by
  intro n
  induction n using Nat.strongRecOn with
  | ind n ih =>
    intro z hz hd
    cases n with
    | zero =>
      rcases one_of hz (hd.pm hm) with k | k
      · rw [k]; exact ⟨_, hs.pw 0, (one_mul _).symm⟩
      · rw [k]; exact ⟨-(pw s 0), (hs.pw 0).neg, by rw [c_mul, sm_neg]; exact ext fun i => by simp only [neg_at]; omega⟩
    | succ n =>
      obtain ⟨f, hf, x, hx, rfl⟩ := has_ir hz.fn (hd.pm hm) hz
      have hx0 : x ≠ Se.c 0 := fun k => hz.ne (by rw [k, mul_zero])
      obtain ⟨j, hj⟩ := hx.dg hx0
      obtain ⟨k, hk⟩ := hf.pos
      have h1 := (hk.mul hj).uniq hz
      obtain ⟨s1, hs1, e1, _⟩ := simple_once hf hw hm.ne hg hs e ((Dv.right hx).trans hd)
      obtain ⟨y, hy, e2⟩ := ih j (by omega) hj ((Dv.left hf.fn).trans hd)
      have h2 : Dv (f * x) (pw s (j + 1)) := ⟨s1 * y, hs1.mul hy, by
        have e3 : s * (x * y) = f * s1 * (x * y) := by rw [← e1]
        rw [pw, e2, e3]; ac_rfl⟩
      rw [show n + 1 = (j + 1) + (n - j) by omega, pw_add]
      exact h2.mul (hs.pw _)
/-- It has nothing in common with its derivative. -/
theorem simple_free (hw : Fn w) (hm : Pm w) (hg : Gc g w (dr w)) (hs : Fn s) (e : w = s * g) (hd : Gc u s (dr s)) (hu : Dg u n) : n = 0 := by
  cases n with
  | zero => rfl
  | succ n =>
    have hsw : Dv s w := ⟨g, hg.fn, e⟩
    obtain ⟨f, hf, hfu⟩ := has_ir hd.fn (hd.left.pm (hsw.pm hm)) hu
    obtain ⟨s1, hs1, e1, h2⟩ := simple_once hf hw hm.ne hg hs e ((hfu.trans hd.left).trans hsw)
    have h3 : Dv f (dr f * s1) := by
      have := (hfu.trans hd.right).sub (Dv.right (p := f) hs1.dr)
      rwa [show dr s - f * dr s1 = dr f * s1 from ext fun i => by rw [e1, dr_mul]; simp only [sub_at, add_at]; omega] at this
    rcases hf.prime hf.fn.dr hs1 h3 with k | k
    · exact absurd k hf.not_dr
    · exact absurd k h2
end Se
end Go.Proofs.Ytnidohbbimfpjaa.MP
