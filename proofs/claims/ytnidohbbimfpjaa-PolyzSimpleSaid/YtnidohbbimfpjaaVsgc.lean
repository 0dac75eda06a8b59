/-
  the steps of the subresultant method, and what they end with; the coefficients of divisors.
-/
import Derived.Test.YtnidohbbimfpjaaVsub
import Derived.Test.YtnidohbbimfpjaaVgcd
import Derived.Test.YtnidohbbimfpjaaVgc
namespace Go.Proofs.Ytnidohbbimfpjaa.MS
set_option linter.unusedVariables false
set_option linter.unusedSimpArgs false
open MP (Se)
theorem ctL_all (e : Int) : ∀ (l : List Int) (a : Int), e ∣ l.foldl (fun a x => (Nat.gcd a.natAbs x.natAbs : Int)) a ↔ e ∣ a ∧ ∀ x ∈ l, e ∣ x
  | [], a => by simp
  | y :: l, a => by
    rw [List.foldl_cons, ctL_all e l]
    have : e ∣ ((Nat.gcd a.natAbs y.natAbs : Nat) : Int) ↔ e ∣ a ∧ e ∣ y := by
      constructor
      · intro h
        exact ⟨Int.dvd_trans h (Int.gcd_dvd_left a y), Int.dvd_trans h (Int.gcd_dvd_right a y)⟩
      · rintro ⟨h1, h2⟩; exact Int.dvd_coe_gcd h1 h2
    rw [this]
    simp only [List.mem_cons, forall_eq_or_imp]
    exact ⟨fun h => ⟨h.1.1, h.1.2, h.2⟩, fun h => ⟨⟨h.1, h.2.1⟩, h.2.2⟩⟩
theorem ad_co (e : Int) (l : List Int) : MP.Se.Ad e (MP.Se.co l) ↔ ∀ x ∈ l, e ∣ x := by
  constructor
  · intro h x hx
    obtain ⟨i, hi, rfl⟩ := List.getElem_of_mem hx
    rw [← MP.Se.co_at hi]; exact h i
  · intro h i
    by_cases hi : i < l.length
    · rw [MP.Se.co_at hi]; exact h _ (List.getElem_mem hi)
    · rw [MP.Se.co_out (by omega)]; exact Int.dvd_zero e
theorem ctL_ct (l : List Int) : MP.Se.Ct (ctL l) (MP.Se.co l) := by
  refine ⟨?_, fun e => by rw [ad_co, ctL, ctL_all]; simp⟩
  rcases MP.Se.snoc_ind (P := fun l => l = [] ∨ ∃ n : Nat, ctL l = n) (.inl rfl) (fun l a _ => .inr ⟨Nat.gcd (ctL l).natAbs a.natAbs, by rw [ctL, List.foldl_append]; rfl⟩) l with h | ⟨n, h⟩
  · subst h; decide
  · rw [h]; omega
theorem ldL_at {l : List Int} (h : MP.Se.nf l ≠ []) : ldL l = (MP.Se.co l) ((MP.Se.nf l).length - 1) := by
  have hl := List.length_pos_iff.2 h
  rw [ldL, ← MP.Se.co_nf l]; rfl
/-- What the primitive list of a list is. -/
structure Pr (l : List Int) (P : List Int) (d : Int) : Prop where
  ne : d ≠ 0
  nm : MP.Se.Nm P
  eq : MP.Se.co l = MP.Se.sm d (MP.Se.co P)
  pm : MP.Se.Pm (MP.Se.co P)
  len : P.length = (MP.Se.nf l).length
  pos : 0 < (MP.Se.co P) (P.length - 1)
  le : ∀ i, ((MP.Se.co P) i).natAbs ≤ ((MP.Se.co l) i).natAbs
theorem primL_pr {l : List Int} (h : MP.Se.nf l ≠ []) : Pr l (primL l) (pdL l) := by
  have h0 : MP.Se.co l ≠ MP.Se.c 0 := fun e => h (MP.Se.nf_nil_iff.2 e)
  obtain ⟨s, hs, hp, he⟩ := (ctL_ct l).div (MP.Se.co_fn l) h0
  have hc := (ctL_ct l).ne h0
  have hc0 := (ctL_ct l).1
  have hl := List.length_pos_iff.2 h
  obtain ⟨σ, hσ, hd⟩ : ∃ σ : Int, (σ = 1 ∨ σ = -1) ∧ pdL l = σ * ctL l := by
    rw [pdL]; split
    · exact ⟨-1, .inr rfl, by omega⟩
    · exact ⟨1, .inl rfl, by omega⟩
  have hσ2 : σ * σ = 1 := by rcases hσ with rfl | rfl <;> rfl
  have hd0 : pdL l ≠ 0 := by rw [hd]; rcases hσ with rfl | rfl <;> omega
  have e1 : MP.Se.co l = MP.Se.sm (pdL l) (MP.Se.sm σ s) := by
    rw [MP.Se.sm_sm, hd, show σ * ctL l * σ = ctL l by rw [Int.mul_comm σ, Int.mul_assoc, hσ2, Int.mul_one], ← he]
  have e2 : MP.Se.co (primL l) = MP.Se.sm σ s := by
    rw [primL, MP.Se.co_nf, MP.Se.co_map _ (by simp), MP.Se.co_nf, e1]
    exact MP.Se.ext fun i => by rw [MP.Se.sm_at, Int.mul_ediv_cancel_left _ hd0]
  have hN : MP.Se.Nm (primL l) := MP.Se.nm_nf _
  have e3 : MP.Se.co l = MP.Se.sm (pdL l) (MP.Se.co (primL l)) := by rw [e2]; exact e1
  have hP0 : primL l ≠ [] := fun e => h0 (by rw [e3, e, MP.Se.co_nil, MP.Se.c_sm]; simp)
  have d1 := MP.Se.nm_dg hN hP0
  have d2 := MP.Se.nm_dg (MP.Se.nm_nf l) h
  rw [MP.Se.co_nf] at d2
  have d3 := (d1.sm hd0).uniq (e3 ▸ d2)
  have hPl := List.length_pos_iff.2 hP0
  have hlen : (primL l).length = (MP.Se.nf l).length := by omega
  refine ⟨hd0, hN, e3, ?_, hlen, ?_, fun i => ?_⟩
  · rw [e2]
    rcases hσ with rfl | rfl
    · rw [MP.Se.sm_one]; exact hp
    · rw [MP.Se.sm_neg]; exact hp.neg
  · have h5 := congrArg (fun f => f ((primL l).length - 1)) e3
    simp only [MP.Se.sm_at] at h5
    have h6 := d1.1
    have h7 : ldL l = (MP.Se.co l) ((primL l).length - 1) := by rw [ldL_at h, hlen]
    rw [← h7] at h5
    obtain ⟨x, hx⟩ : ∃ x, (MP.Se.co (primL l)) ((primL l).length - 1) = x := ⟨_, rfl⟩
    rw [hx] at h5 h6 ⊢
    by_cases hneg : ldL l < 0
    · have h8 : pdL l = -ctL l := by rw [pdL, if_pos hneg]
      rw [h8] at h5
      rcases Int.lt_or_le 0 x with h9 | h9
      · exact h9
      · have := Int.mul_nonneg_of_nonpos_of_nonpos (show -ctL l ≤ 0 by omega) h9; omega
    · have h8 : pdL l = ctL l := by rw [pdL, if_neg hneg]
      rw [h8] at h5
      rcases Int.lt_or_le 0 x with h9 | h9
      · exact h9
      · have h10 : ctL l * x < 0 := Int.mul_neg_of_pos_of_neg (by omega) (by omega)
        omega
  · rw [e3, MP.Se.sm_at, Int.natAbs_mul]
    exact Nat.le_mul_of_pos_left _ (by omega)
/-- The steps of the program: sizes are told by Sz. -/
def Pg (Sz : Int → Prop) : Nat → List Int → List Int → Int → Int → List Int → Prop
  | 0, _, _, _, _, _ => False
  | N + 1, P, Q, f, s, G => (Q.length = 1 ∧ G = [1]) ∨ (Q = [] ∧ G = primL P) ∨
    ∃ (r Q2 : List Int) (u : MP.Se) (f2 s2 : Int) (d gap : Nat), (Q.length = d + 1 ∧ 1 ≤ d ∧ P.length = d + 1 + gap ∧ MP.Se.Nm r) ∧ (MP.Se.Fn u ∧ MP.Se.sm ((MP.Se.co Q) d ^ (gap + 1)) (MP.Se.co P) = MP.Se.co Q * u + MP.Se.co r ∧ MP.Se.Bd (MP.Se.co r) d) ∧
      (f * s ^ gap ≠ 0 ∧ Q2 = MP.Se.nf (r.map (· / (f * s ^ gap))) ∧ f2 = (MP.Se.co Q) d) ∧ (gap = 0 ∧ s2 = s ∨ 0 < gap ∧ s ^ (gap - 1) ≠ 0 ∧ s2 = f2 ^ gap / s ^ (gap - 1)) ∧
      ((∀ x ∈ Q2, Sz x) ∧ Sz f2 ∧ Sz s2) ∧ Pg Sz N Q Q2 f2 s2 G
/-- The greatest common divisor of two of which one at least is primitive. -/
structure Gk (G : List Int) (p q : Se) : Prop where
  nm : MP.Se.Nm G
  pm : MP.Se.Pm (MP.Se.co G)
  pos : 0 < (MP.Se.co G) (G.length - 1)
  gr : ∀ d, MP.Se.Fn d → MP.Se.Pm d → (MP.Se.Dv d (MP.Se.co G) ↔ MP.Se.Dv d p ∧ MP.Se.Dv d q)
theorem pm_one : MP.Se.Pm (MP.Se.c 1) := fun l hl h => by
  have h1 := h 0
  rw [MP.Se.c_0] at h1
  have := Int.le_of_dvd (by omega) h1
  have := hl.1
  omega
/-- A step of the program, as numbers. -/
theorem pg_step {K M m0 n0 ε m n : Nat} {p q : Se} {P Q : List Int} {f s : Int} (I : In m0 n0 p q ε m n (MP.Se.co P) (MP.Se.co Q) f s) (hP : P.length = m + 1) (hn : 0 < n)
    (hp : ∀ i, (p i).natAbs ≤ M) (hq : ∀ i, (q i).natAbs ≤ M) (hM : 1 ≤ M) (hK : ((m0 + n0) * M) ^ (m0 + n0) ≤ K) (hs : s.natAbs ≤ K) :
    ∃ (r R : List Int) (u : Se) (s2 : Int), MP.Se.Nm r ∧ MP.Se.Nm R ∧ MP.Se.Bd u (m - n + 1) ∧ MP.Se.sm ((MP.Se.co Q) n ^ (m - n + 1)) (MP.Se.co P) = MP.Se.co Q * u + MP.Se.co r ∧ MP.Se.Bd (MP.Se.co r) n ∧ MP.Se.co r = MP.Se.sm (f * s ^ (m - n)) (MP.Se.co R) ∧ R = MP.Se.nf (r.map (· / (f * s ^ (m - n)))) ∧
      (∀ i, ((MP.Se.co R) i).natAbs ≤ K) ∧ s2.natAbs ≤ K ∧ s2 ≠ 0 ∧ (m = n ∧ s2 = s ∨ n < m ∧ ((MP.Se.co Q) n) ^ (m - n) = s ^ (m - n - 1) * s2) ∧
      (R ≠ [] → R.length - 1 < n ∧ In m0 n0 p q (ε + n * m) n (R.length - 1) (MP.Se.co Q) (MP.Se.co R) ((MP.Se.co Q) n) s2) := by
  have hle := I.le
  obtain ⟨u, r, hu, hr, hE⟩ := pseudoT I.dQ (m - n + 1) (p := MP.Se.co P) ((MP.Se.co_bd P).le (by omega))
  obtain ⟨σ, hσ⟩ := I.exact hn hu hr hE
  have hβ : f * s ^ (m - n) ≠ 0 := Int.mul_ne_zero I.fne (Int.pow_ne_zero I.sne)
  have hr' : MP.Se.co (MP.Se.nf (MP.Se.ls n r)) = r := by rw [MP.Se.co_nf, MP.Se.co_ls hr]
  obtain ⟨R, hR⟩ : ∃ R : Se, R = fun k => MD.sg σ * dd m0 n0 (n - 1) p q k := ⟨_, rfl⟩
  have hrR : r = MP.Se.sm (f * s ^ (m - n)) R := MP.Se.ext fun k => by rw [hR]; exact hσ k
  have hco : MP.Se.co (MP.Se.nf ((MP.Se.nf (MP.Se.ls n r)).map (· / (f * s ^ (m - n))))) = R := by
    rw [MP.Se.co_nf, MP.Se.co_map _ (by simp), hr', hrR]
    exact MP.Se.ext fun i => by rw [MP.Se.sm_at, Int.mul_ediv_cancel_left _ hβ]
  obtain ⟨s2, hs2, hs0, hsK⟩ : ∃ s2, (m = n ∧ s2 = s ∨ n < m ∧ ((MP.Se.co Q) n) ^ (m - n) = s ^ (m - n - 1) * s2) ∧ s2 ≠ 0 ∧ s2.natAbs ≤ K := by
    rcases Nat.eq_or_lt_of_le hle with h1 | h1
    · exact ⟨s, .inl ⟨h1.symm, rfl⟩, I.sne, hs⟩
    · obtain ⟨s2, σ2, h2, h3, h4⟩ := I.scale h1
      exact ⟨s2, .inr ⟨h1, h2⟩, h3, by rw [h4, sg_abs]; exact Nat.le_trans (dd_le2 hp hq hM _) hK⟩
  refine ⟨MP.Se.nf (MP.Se.ls n r), MP.Se.nf ((MP.Se.nf (MP.Se.ls n r)).map (· / (f * s ^ (m - n)))), u, s2, MP.Se.nm_nf _, MP.Se.nm_nf _, hu, by rw [hr']; exact hE, by rw [hr']; exact hr, by rw [hr', hco]; exact hrR, rfl, fun i => ?_, hsK, hs0, hs2, fun hR0 => ?_⟩
  · rw [hco, hR, sg_abs]; exact Nat.le_trans (dd_le2 hp hq hM _) hK
  · have hd := MP.Se.nm_dg (MP.Se.nm_nf _) hR0
    have hlt : (MP.Se.nf ((MP.Se.nf (MP.Se.ls n r)).map (· / (f * s ^ (m - n))))).length - 1 < n := by
      have h1 : MP.Se.Bd (MP.Se.co (MP.Se.nf ((MP.Se.nf (MP.Se.ls n r)).map (· / (f * s ^ (m - n)))))) n := by
        rw [hco]
        intro i hi
        have := hr i hi
        rw [hrR, MP.Se.sm_at] at this
        rcases Int.mul_eq_zero.1 this with h | h
        · exact absurd h hβ
        · exact h
      rcases Nat.lt_or_ge ((MP.Se.nf ((MP.Se.nf (MP.Se.ls n r)).map (· / (f * s ^ (m - n))))).length - 1) n with h2 | h2
      · exact h2
      · exact absurd (h1 _ h2) hd.1
    exact ⟨hlt, I.next hd hlt hu (by rw [hco, ← hrR]; exact hE) hs0 hs2⟩
theorem pg_chain {Sz : Int → Prop} {K M m0 n0 : Nat} {p q : Se} (hp : ∀ i, (p i).natAbs ≤ M) (hq : ∀ i, (q i).natAbs ≤ M) (hM : 1 ≤ M) (hK : ((m0 + n0) * M) ^ (m0 + n0) ≤ K) (hS : ∀ x : Int, x.natAbs ≤ K → Sz x) :
    ∀ (n : Nat) {ε m : Nat} {P Q : List Int} {f s : Int}, In m0 n0 p q ε m n (MP.Se.co P) (MP.Se.co Q) f s → P.length = m + 1 → Q.length = n + 1 → MP.Se.Nm P → MP.Se.Nm Q → (∀ i, ((MP.Se.co Q) i).natAbs ≤ K) → s.natAbs ≤ K → ∃ N G, Pg Sz N P Q f s G ∧ Gk G (MP.Se.co P) (MP.Se.co Q) := by
  intro n
  induction n using Nat.strongRecOn with
  | ind n ih =>
    intro ε m P Q f s I hPl hQl hPn hQn hQK hsK
    have hle := I.le
    rcases Nat.eq_zero_or_pos n with h0 | hn
    · subst h0
      refine ⟨1, [1], .inl ⟨hQl, rfl⟩, ⟨by simp [MP.Se.Nm], ?_, by simp [MP.Se.co], fun d hd hdm => ?_⟩⟩
      · rw [show MP.Se.co [1] = MP.Se.c 1 from MP.Se.ext fun i => by cases i <;> simp [MP.Se.co, MP.Se.c]]; exact pm_one
      · rw [show MP.Se.co [1] = MP.Se.c 1 from MP.Se.ext fun i => by cases i <;> simp [MP.Se.co, MP.Se.c]]
        have hone : ∀ x : Se, MP.Se.Fn x → MP.Se.Dv (MP.Se.c 1) x := fun x hx => ⟨x, hx, (MP.Se.one_mul x).symm⟩
        constructor
        · intro h; exact ⟨h.trans (hone _ (MP.Se.co_fn P)), h.trans (hone _ (MP.Se.co_fn Q))⟩
        · rintro ⟨_, h⟩
          obtain ⟨k, hk⟩ := hd.dg (h.ne I.dQ.ne)
          have hk0 := h.le hk I.dQ
          obtain rfl : k = 0 := by omega
          rcases MP.Se.one_of hk hdm with e | e
          · rw [e]; exact MP.Se.Dv.refl _
          · rw [e]; exact ⟨MP.Se.c (-1), MP.Se.Fn.c _, by rw [MP.Se.c_mul, MP.Se.c_sm]; rfl⟩
    · obtain ⟨r, R, u, s2, hrn, hRn, hu, hE, hr, hrR, hRe, hRK, hs2K, hs20, hs2, hnext⟩ := pg_step I hPl hn hp hq hM hK hsK
      have hβ : f * s ^ (m - n) ≠ 0 := Int.mul_ne_zero I.fne (Int.pow_ne_zero I.sne)
      have hgr : ∀ d, MP.Se.Fn d → MP.Se.Pm d → (MP.Se.Dv d (MP.Se.co Q) ∧ MP.Se.Dv d (MP.Se.co R) ↔ MP.Se.Dv d (MP.Se.co P) ∧ MP.Se.Dv d (MP.Se.co Q)) := fun d hd hdm => by
        constructor
        · rintro ⟨h1, h2⟩
          refine ⟨MP.Se.Dv.of_sm (show (MP.Se.co Q) n ^ (m - n + 1) ≠ 0 from Int.pow_ne_zero I.dQ.1) hdm ?_, h1⟩
          rw [hE, hrR]; exact (h1.mul ⟨_, hu⟩).add h2.sm
        · rintro ⟨h1, h2⟩
          refine ⟨h2, MP.Se.Dv.of_sm hβ hdm ?_⟩
          have e2 : MP.Se.sm (f * s ^ (m - n)) (MP.Se.co R) = MP.Se.sm ((MP.Se.co Q) n ^ (m - n + 1)) (MP.Se.co P) - MP.Se.co Q * u := by
            rw [← hrR, hE]
            refine MP.Se.ext fun i => ?_
            simp only [MP.Se.add_at, MP.Se.sub_at]; omega
          rw [e2]; exact h1.sm.sub (h2.mul ⟨_, hu⟩)
      have hthird : ∀ N G, Pg Sz N Q R ((MP.Se.co Q) n) s2 G → Pg Sz (N + 1) P Q f s G := fun N G h => by
        refine .inr (.inr ⟨r, R, u, (MP.Se.co Q) n, s2, n, m - n, ⟨hQl, hn, by omega, hrn⟩, ⟨⟨_, hu⟩, hE, hr⟩, ⟨hβ, hRe, rfl⟩, ?_, ⟨fun x hx => ?_, hS _ (hQK n), hS _ hs2K⟩, h⟩)
        · rcases hs2 with ⟨h1, h2⟩ | ⟨h1, h2⟩
          · exact .inl ⟨by omega, h2⟩
          · have hz : s ^ (m - n - 1) ≠ 0 := Int.pow_ne_zero I.sne
            exact .inr ⟨by omega, hz, by rw [h2, Int.mul_ediv_cancel_left _ hz]⟩
        · obtain ⟨i, hi, rfl⟩ := List.getElem_of_mem hx
          rw [← MP.Se.co_at hi]; exact hS _ (hRK i)
      by_cases hR0 : R = []
      · subst hR0
        have hQ0 : MP.Se.nf Q ≠ [] := by rw [MP.Se.nf_id hQn]; intro e; rw [e] at hQl; simp at hQl
        have hpr := primL_pr hQ0
        refine ⟨2, primL Q, hthird 1 _ (.inr (.inl ⟨rfl, rfl⟩)), ⟨hpr.nm, hpr.pm, hpr.pos, fun d hd hdm => ?_⟩⟩
        rw [← hgr d hd hdm, MP.Se.co_nil]
        constructor
        · intro h; rw [hpr.eq]; exact ⟨h.sm, MP.Se.Dv.zero⟩
        · rintro ⟨h, _⟩; rw [hpr.eq] at h; exact MP.Se.Dv.of_sm hpr.ne hdm h
      · obtain ⟨hlt, I2⟩ := hnext hR0
        have hRl := List.length_pos_iff.2 hR0
        obtain ⟨N, G, h1, h2⟩ := ih _ hlt I2 hQl (by omega) hQn hRn hRK hs2K
        exact ⟨N + 1, G, hthird N G h1, ⟨h2.nm, h2.pm, h2.pos, fun d hd hdm => (h2.gr d hd hdm).trans (hgr d hd hdm)⟩⟩
end Go.Proofs.Ytnidohbbimfpjaa.MS
namespace Go.Proofs.Ytnidohbbimfpjaa.MS
set_option linter.unusedVariables false
set_option linter.unusedSimpArgs false
open MP (Se)
def PgLz (Sz : Int → Prop) (N : Nat) (P Q G : List Int) : Prop := if P.length < Q.length then Pg Sz N Q P 1 1 G else Pg Sz N P Q 1 1 G
theorem Gk.swap {G : List Int} {p q : Se} (h : Gk G p q) : Gk G q p := ⟨h.nm, h.pm, h.pos, fun d hd hdm => (h.gr d hd hdm).trans ⟨fun h => ⟨h.2, h.1⟩, fun h => ⟨h.2, h.1⟩⟩⟩
theorem Gk.dv {G : List Int} {p q : Se} (h : Gk G p q) : MP.Se.Dv (MP.Se.co G) p ∧ MP.Se.Dv (MP.Se.co G) q := (h.gr _ (MP.Se.co_fn G) h.pm).1 (MP.Se.Dv.refl _)
theorem gc_two {G : List Int} {s t : Se} {a b : Int} (ha : a ≠ 0) (hb : b ≠ 0) (hs : MP.Se.Fn s) (hs2 : MP.Se.Pm s) (ht : MP.Se.Fn t) (ht2 : MP.Se.Pm t) (h : Gk G s t) : MP.Se.Gc (MP.Se.sm (Nat.gcd a.natAbs b.natAbs : Int) (MP.Se.co G)) (MP.Se.sm a s) (MP.Se.sm b t) := by
  have hg : ((Nat.gcd a.natAbs b.natAbs : Nat) : Int) ≠ 0 := by
    have := Nat.gcd_pos_of_pos_left b.natAbs (show 0 < a.natAbs by omega)
    omega
  obtain ⟨d3, d4⟩ := h.dv
  refine ⟨(MP.Se.co_fn G).sm, (MP.Se.dv_parts hg ha h.pm hs2 hs).2 ⟨Int.gcd_dvd_left a b, d3⟩, (MP.Se.dv_parts hg hb h.pm ht2 ht).2 ⟨Int.gcd_dvd_right a b, d4⟩, fun x x1 x2 x3 => ?_⟩
  have hne : x ≠ MP.Se.c 0 := by
    rintro rfl
    obtain ⟨k, _, e⟩ := x2
    exact MP.Se.sm_ne ha hs2.ne (by rw [e, MP.Se.zero_mul])
  obtain ⟨c, u, c1, c2, c3, rfl⟩ := MP.Se.prim_split x1 hne
  have y1 := (MP.Se.dv_parts c1 ha c3 hs2 hs).1 x2
  have y2 := (MP.Se.dv_parts c1 hb c3 ht2 ht).1 x3
  exact (MP.Se.dv_parts c1 hg c3 h.pm (MP.Se.co_fn G)).2 ⟨Int.dvd_coe_gcd y1.1 y2.1, (h.gr u c2 c3).2 ⟨y1.2, y2.2⟩⟩
theorem gc_left {G : List Int} {s : Se} {a : Int} (ha : a ≠ 0) (hs : MP.Se.Fn s) (hs2 : MP.Se.Pm s) (h : Gk G s (MP.Se.c 0)) : MP.Se.Gc (MP.Se.sm (a.natAbs : Int) (MP.Se.co G)) (MP.Se.sm a s) (MP.Se.c 0) := by
  have hg : (a.natAbs : Int) ≠ 0 := by omega
  obtain ⟨d3, d4⟩ := h.dv
  refine ⟨(MP.Se.co_fn G).sm, (MP.Se.dv_parts hg ha h.pm hs2 hs).2 ⟨Int.natAbs_dvd.2 (Int.dvd_refl a), d3⟩, MP.Se.Dv.zero, fun x x1 x2 x3 => ?_⟩
  have hne : x ≠ MP.Se.c 0 := by
    rintro rfl
    obtain ⟨k, _, e⟩ := x2
    exact MP.Se.sm_ne ha hs2.ne (by rw [e, MP.Se.zero_mul])
  obtain ⟨c, u, c1, c2, c3, rfl⟩ := MP.Se.prim_split x1 hne
  have y1 := (MP.Se.dv_parts c1 ha c3 hs2 hs).1 x2
  exact (MP.Se.dv_parts c1 hg c3 h.pm (MP.Se.co_fn G)).2 ⟨Int.dvd_natAbs.2 y1.1, (h.gr u c2 c3).2 ⟨y1.2, MP.Se.Dv.zero⟩⟩
theorem pdL_abs (l : List Int) : (pdL l).natAbs = (ctL l).natAbs := by rw [pdL]; split <;> omega
theorem nf_nil_all {l : List Int} (h : MP.Se.nf l = []) : primL l = [] ∧ (ctL l).natAbs = 0 := by
  refine ⟨by rw [primL, h]; rfl, ?_⟩
  have h0 := (ctL_ct l).2 0
  rw [MP.Se.nf_nil_iff.1 h] at h0
  have := Int.zero_dvd.1 (h0.1 fun i => by cases i <;> exact Int.dvd_refl 0)
  omega
theorem pg_end {Sz : Int → Prop} {l : List Int} {f s : Int} (h : MP.Se.nf l ≠ []) : ∃ G, Pg Sz 1 (primL l) [] f s G ∧ Gk G (MP.Se.co (primL l)) (MP.Se.c 0) := by
  have hp := primL_pr h
  have hP0 : MP.Se.nf (primL l) ≠ [] := by
    rw [MP.Se.nf_id hp.nm]; intro e; have := hp.len; rw [e] at this; exact h (List.eq_nil_of_length_eq_zero this.symm)
  have hp2 := primL_pr hP0
  refine ⟨primL (primL l), .inr (.inl ⟨rfl, rfl⟩), ⟨hp2.nm, hp2.pm, hp2.pos, fun d hd hdm => ?_⟩⟩
  constructor
  · intro k; rw [hp2.eq]; exact ⟨k.sm, MP.Se.Dv.zero⟩
  · rintro ⟨k, _⟩; rw [hp2.eq] at k; exact MP.Se.Dv.of_sm hp2.ne hdm k
/-- The numbers of the sequence of two polynomials are at most this. -/
def kK (D M : Nat) : Nat := (D * M) ^ D
theorem gcd_ex {Sz : Int → Prop} {l l2 : List Int} {M D : Nat} (hl : ∀ i, ((MP.Se.co l) i).natAbs ≤ M) (hl2 : ∀ i, ((MP.Se.co l2) i).natAbs ≤ M) (hM : 1 ≤ M) (hD : (MP.Se.nf l).length + (MP.Se.nf l2).length ≤ D + 2) (hD1 : 1 ≤ D)
    (hS : ∀ x : Int, x.natAbs ≤ kK D M → Sz x) : ∃ N G, PgLz Sz N (primL l) (primL l2) G ∧ MP.Se.Gc (MP.Se.sm (Nat.gcd (ctL l).natAbs (ctL l2).natAbs : Int) (MP.Se.co G)) (MP.Se.co l) (MP.Se.co l2) ∧
      (MP.Se.nf l ≠ [] ∨ MP.Se.nf l2 ≠ [] → MP.Se.Nm G ∧ MP.Se.Pm (MP.Se.co G) ∧ G ≠ [] ∧ 0 < (MP.Se.co G) (G.length - 1) ∧ 0 < Nat.gcd (ctL l).natAbs (ctL l2).natAbs) ∧ (MP.Se.nf l ≠ [] → G.length ≤ (MP.Se.nf l).length) := by
  have hlen : ∀ {G : List Int} {P : List Int} {d : Int} {l : List Int}, Pr l P d → MP.Se.nf l ≠ [] → MP.Se.Nm G → MP.Se.Pm (MP.Se.co G) → MP.Se.Dv (MP.Se.co G) (MP.Se.co P) → G.length ≤ (MP.Se.nf l).length := fun {G P d l} hp h hn hm hdv => by
    have hG0 : G ≠ [] := fun e => hm.ne (by rw [e, MP.Se.co_nil])
    have hP0 : P ≠ [] := fun e => by have := hp.len; rw [e] at this; exact h (List.eq_nil_of_length_eq_zero this.symm)
    have := hdv.le (MP.Se.nm_dg hn hG0) (MP.Se.nm_dg hp.nm hP0)
    have h1 := List.length_pos_iff.2 hG0; have h2 := List.length_pos_iff.2 hP0
    have h3 := hp.len
    omega
  have hDM : 1 ≤ D * M := Nat.mul_pos hD1 hM
  have hMK : M ≤ kK D M := by
    unfold kK
    obtain ⟨d, rfl⟩ : ∃ d, D = d + 1 := ⟨D - 1, by omega⟩
    rw [Nat.pow_succ]
    exact Nat.le_trans (Nat.le_mul_of_pos_left M hD1) (Nat.le_mul_of_pos_left _ (Nat.pow_pos hDM))
  have hK : ∀ k, k ≤ D → (k * M) ^ k ≤ kK D M := fun k hk => Nat.le_trans (Nat.pow_le_pow_left (Nat.mul_le_mul_right _ hk) _) (Nat.pow_le_pow_right hDM hk)
  have hpos : ∀ {G : List Int} {p q : Se}, Gk G p q → 0 < Nat.gcd (ctL l).natAbs (ctL l2).natAbs → MP.Se.Nm G ∧ MP.Se.Pm (MP.Se.co G) ∧ G ≠ [] ∧ 0 < (MP.Se.co G) (G.length - 1) ∧ 0 < Nat.gcd (ctL l).natAbs (ctL l2).natAbs := fun hk h0 => ⟨hk.nm, hk.pm, fun e => hk.pm.ne (by rw [e, MP.Se.co_nil]), hk.pos, h0⟩
  by_cases h1 : MP.Se.nf l = []
  · obtain ⟨e1, e2⟩ := nf_nil_all h1
    by_cases h2 : MP.Se.nf l2 = []
    · obtain ⟨e3, e4⟩ := nf_nil_all h2
      refine ⟨1, [], ?_, ?_, fun h => absurd (h.resolve_left fun k => k h1) (fun k => k h2), fun h => absurd h1 h⟩
      · unfold PgLz; rw [e1, e3, if_neg (by simp)]; exact .inr (.inl ⟨rfl, by decide⟩)
      · rw [MP.Se.nf_nil_iff.1 h1, MP.Se.nf_nil_iff.1 h2, MP.Se.co_nil, MP.Se.c_sm, Int.mul_zero]
        exact ⟨MP.Se.Fn.c 0, MP.Se.Dv.zero, MP.Se.Dv.zero, fun _ _ h _ => h⟩
    · obtain ⟨G, hG, hk⟩ := pg_end (Sz := Sz) (f := 1) (s := 1) h2
      have hp := primL_pr h2
      have hl0 := List.length_pos_iff.2 h2
      have hc := (ctL_ct l2).ne fun e => h2 (MP.Se.nf_nil_iff.2 e)
      refine ⟨1, G, ?_, ?_, fun _ => hpos hk (by rw [e2, Nat.gcd_zero_left]; omega), fun h => absurd h1 h⟩
      · unfold PgLz; rw [e1, if_pos (by rw [hp.len]; exact hl0)]; exact hG
      · rw [e2, Nat.gcd_zero_left, MP.Se.nf_nil_iff.1 h1]
        have := gc_left hp.ne (MP.Se.co_fn _) hp.pm hk
        rw [← hp.eq, pdL_abs] at this
        exact this.symm
  · have hp := primL_pr h1
    have hl0 := List.length_pos_iff.2 h1
    have hc := (ctL_ct l).ne fun e => h1 (MP.Se.nf_nil_iff.2 e)
    by_cases h2 : MP.Se.nf l2 = []
    · obtain ⟨e3, e4⟩ := nf_nil_all h2
      obtain ⟨G, hG, hk⟩ := pg_end (Sz := Sz) (f := 1) (s := 1) h1
      refine ⟨1, G, ?_, ?_, fun _ => hpos hk (by rw [e4, Nat.gcd_zero_right]; omega), fun h => hlen hp h1 hk.nm hk.pm hk.dv.1⟩
      · unfold PgLz; rw [e3, if_neg (by simp)]; exact hG
      · rw [e4, Nat.gcd_zero_right, MP.Se.nf_nil_iff.1 h2]
        have := gc_left hp.ne (MP.Se.co_fn _) hp.pm hk
        rwa [← hp.eq, pdL_abs] at this
    · have hp2 := primL_pr h2
      have hl02 := List.length_pos_iff.2 h2
      have hP0 : primL l ≠ [] := fun e => by have := hp.len; rw [e] at this; exact h1 (List.eq_nil_of_length_eq_zero this.symm)
      have hQ0 : primL l2 ≠ [] := fun e => by have := hp2.len; rw [e] at this; exact h2 (List.eq_nil_of_length_eq_zero this.symm)
      have dP := MP.Se.nm_dg hp.nm hP0; have dQ := MP.Se.nm_dg hp2.nm hQ0
      have hlP := hp.len; have hlQ := hp2.len
      have bP : ∀ i, ((MP.Se.co (primL l)) i).natAbs ≤ M := fun i => Nat.le_trans (hp.le i) (hl i)
      have bQ : ∀ i, ((MP.Se.co (primL l2)) i).natAbs ≤ M := fun i => Nat.le_trans (hp2.le i) (hl2 i)
      have hg0 : 0 < Nat.gcd (ctL l).natAbs (ctL l2).natAbs := Nat.gcd_pos_of_pos_left _ (by omega)
      have hend : ∀ G, Gk G (MP.Se.co (primL l)) (MP.Se.co (primL l2)) → MP.Se.Gc (MP.Se.sm (Nat.gcd (ctL l).natAbs (ctL l2).natAbs : Int) (MP.Se.co G)) (MP.Se.co l) (MP.Se.co l2) := fun G hk => by
        have := gc_two hp.ne hp2.ne (MP.Se.co_fn _) hp.pm (MP.Se.co_fn _) hp2.pm hk
        rwa [← hp.eq, ← hp2.eq, pdL_abs, pdL_abs] at this
      by_cases hlt : (primL l).length < (primL l2).length
      · obtain ⟨N, G, hG, hk⟩ := pg_chain (Sz := Sz) (K := kK D M) bQ bP hM (hK _ (by omega)) hS _ (In.init dQ dP (by omega)) (by omega) (by omega) hp2.nm hp.nm (fun i => Nat.le_trans (bP i) hMK) (Nat.le_trans hM hMK)
        refine ⟨N, G, by unfold PgLz; rw [if_pos hlt]; exact hG, hend G hk.swap, fun _ => hpos hk hg0, fun h => hlen hp h1 hk.nm hk.pm hk.dv.2⟩
      · obtain ⟨N, G, hG, hk⟩ := pg_chain (Sz := Sz) (K := kK D M) bP bQ hM (hK _ (by omega)) hS _ (In.init dP dQ (by omega)) (by omega) (by omega) hp.nm hp2.nm (fun i => Nat.le_trans (bQ i) hMK) (Nat.le_trans hM hMK)
        refine ⟨N, G, by unfold PgLz; rw [if_neg hlt]; exact hG, hend G hk, fun _ => hpos hk hg0, fun h => hlen hp h1 hk.nm hk.pm hk.dv.1⟩
end Go.Proofs.Ytnidohbbimfpjaa.MS
namespace Go.Proofs.Ytnidohbbimfpjaa.MS
set_option linter.unusedVariables false
set_option linter.unusedSimpArgs false
open MP (Se)
/-- A polynomial without its value at a. -/
theorem fac (a : Int) : ∀ (n : Nat) {p : Se}, MP.Se.Bd p (n + 1) → ∃ t, MP.Se.Bd t n ∧ p = MP.Se.c (MP.Se.vl p a) + MP.Se.xa (-a) * t
  | 0, p, h => by
    have e : p = MP.Se.c (p 0) := by conv => lhs; rw [MP.Se.split p, h.tl.zero, MP.Se.sh_zero, MP.Se.add_zero]
    have ev : MP.Se.vl p a = p 0 := by rw [e, MP.Se.vl_c, MP.Se.c_0]
    exact ⟨MP.Se.c 0, MP.Se.Bd.c0 0, by rw [MP.Se.mul_zero, MP.Se.add_zero, ev]; exact e⟩
  | n + 1, p, h => by
    obtain ⟨t, ht, e⟩ := fac a n (p := MP.Se.tl p) h.tl
    refine ⟨MP.Se.c (MP.Se.vl (MP.Se.tl p) a) + MP.Se.sh t, ((MP.Se.Bd.c _).le (by omega)).add ht.sh, ?_⟩
    rw [MP.Se.vl_split ⟨_, h⟩, MP.Se.mul_add, MP.Se.mul_sh, MP.Se.mul_c]
    have e2 : p = MP.Se.c (p 0) + MP.Se.sh (MP.Se.c (MP.Se.vl (MP.Se.tl p) a) + MP.Se.xa (-a) * t) := by conv => lhs; rw [MP.Se.split p, e]
    rw [MP.Se.sh_add] at e2
    generalize MP.Se.sh (MP.Se.xa (-a) * t) = z at *
    generalize MP.Se.vl (MP.Se.tl p) a = v at *
    conv => lhs; rw [e2]
    refine MP.Se.ext fun i => ?_
    cases i with
    | zero => simp only [MP.Se.add_at, MP.Se.c_0, MP.Se.sh_0, MP.Se.sm_at, MP.Se.xa]; grind
    | succ i => cases i with
      | zero => simp only [MP.Se.add_at, MP.Se.c_at, MP.Se.c_0, MP.Se.sh_at, MP.Se.sm_at, MP.Se.xa]; grind
      | succ i => simp only [MP.Se.add_at, MP.Se.c_at, MP.Se.sh_at, MP.Se.sm_at, MP.Se.xa]; grind
theorem vl_fac {p t : Se} {a v : Int} {n : Nat} (ht : MP.Se.Bd t n) (h : p = MP.Se.c v + MP.Se.xa (-a) * t) (x : Int) : MP.Se.vl p x = v + (x - a) * MP.Se.vl t x := by
  rw [h, MP.Se.vl_add (MP.Se.Fn.c _) ((MP.Se.Fn.xa _).mul ⟨_, ht⟩), MP.Se.vl_c, MP.Se.vl_mul (MP.Se.Fn.xa _) ⟨_, ht⟩, MP.Se.vl_xa]; grind
theorem const_at {p : Se} (h : MP.Se.Bd p 1) (x : Int) : MP.Se.vl p x = p 0 := by
  have e : p = MP.Se.c (p 0) := by conv => lhs; rw [MP.Se.split p, h.tl.zero, MP.Se.sh_zero, MP.Se.add_zero]
  rw [e, MP.Se.vl_c, MP.Se.c_0]
/-- Small values at enough points: small coefficients. -/
theorem coef_le {X : Nat} : ∀ (n : Nat) {p : Se} {l : List Int} {V : Nat}, MP.Se.Bd p (n + 1) → l.Nodup → l.length = n + 1 → (∀ x ∈ l, x.natAbs ≤ X ∧ (MP.Se.vl p x).natAbs ≤ V) → ∀ i, (p i).natAbs ≤ (3 + 2 * X) ^ n * V
  | 0, p, l, V, h, _, hl, hx, i => by
    obtain ⟨a, rfl⟩ := List.length_eq_one_iff.1 hl
    have h1 := (hx a (by simp)).2
    rw [const_at h] at h1
    cases i with
    | zero => simpa using h1
    | succ i => rw [h _ (by omega)]; simp
  | n + 1, p, l, V, h, hd, hl, hx, i => by
    match l, hl with
    | a :: l, hl =>
    obtain ⟨t, ht, e⟩ := fac a (n + 1) h
    have hv := (hx a (by simp)).2
    have ha := (hx a (by simp)).1
    generalize MP.Se.vl p a = v at *
    obtain ⟨hna, hnd⟩ := List.nodup_cons.1 hd
    have ih := coef_le (X := X) n (p := t) (l := l) (V := 2 * V) ht hnd (by simpa using hl) (fun x hxl => by
      obtain ⟨h1, h2⟩ := hx x (by simp [hxl])
      refine ⟨h1, ?_⟩
      rw [vl_fac ht e] at h2
      have h3 : x ≠ a := fun e => hna (e ▸ hxl)
      have h4 : (MP.Se.vl t x).natAbs ≤ ((x - a) * MP.Se.vl t x).natAbs := by rw [Int.natAbs_mul]; exact Nat.le_mul_of_pos_left _ (by omega)
      omega)
    have h1 : p i = (MP.Se.c v) i + (-a * t i + (MP.Se.sh t) i) := by
      conv => lhs; rw [e, MP.Se.xa_mul]
      rfl
    have h2 : ((MP.Se.c v) i).natAbs ≤ V := by cases i <;> simp [MP.Se.c_0, MP.Se.c_at, hv]
    have h3 : ((MP.Se.sh t) i).natAbs ≤ (3 + 2 * X) ^ n * (2 * V) := by
      cases i with
      | zero => simp [MP.Se.sh_0]
      | succ i => exact ih i
    have h4 : (-a * t i).natAbs ≤ X * ((3 + 2 * X) ^ n * (2 * V)) := by rw [Int.natAbs_mul, Int.natAbs_neg]; exact Nat.mul_le_mul ha (ih i)
    have h5 : V ≤ (3 + 2 * X) ^ n * V := Nat.le_mul_of_pos_left _ (Nat.pow_pos (by omega))
    rw [h1, Nat.pow_succ]
    have e6 : (3 + 2 * X) ^ n * (3 + 2 * X) * V = (3 + 2 * X) ^ n * V + (X * ((3 + 2 * X) ^ n * (2 * V)) + (3 + 2 * X) ^ n * (2 * V)) := by
      generalize (3 + 2 * X) ^ n = q; grind
    omega
/-- There are no more roots than the degree. -/
theorem roots_le : ∀ (n : Nat) {p : Se} {l : List Int}, MP.Se.Dg p n → l.Nodup → (∀ x ∈ l, MP.Se.vl p x = 0) → l.length ≤ n
  | 0, p, l, h, _, hx => by
    match l with
    | [] => simp
    | a :: l => have := hx a (by simp); rw [const_at h.2] at this; exact absurd this h.1
  | n + 1, p, l, h, hd, hx => by
    match l with
    | [] => simp
    | a :: l =>
      obtain ⟨t, ht, e⟩ := fac a (n + 1) h.2
      rw [hx a (by simp)] at e
      obtain ⟨hna, hnd⟩ := List.nodup_cons.1 hd
      have e2 : p = MP.Se.xa (-a) * t := by rw [MP.Se.zero_add] at e; exact e
      have ht0 : t ≠ MP.Se.c 0 := fun k => h.ne (by rw [e2, k, MP.Se.mul_zero])
      obtain ⟨k, hk, _⟩ := ht.dg ht0
      have hxa : MP.Se.Dg (MP.Se.xa (-a)) 1 := ⟨by simp [MP.Se.xa, MP.Se.add_at, MP.Se.sh, MP.Se.c], MP.Se.Bd.xa _⟩
      have hk2 := (e2 ▸ hxa.mul hk).uniq h
      obtain rfl : k = n := by omega
      have := roots_le k hk hnd (l := l) fun x hxl => by
        have h1 := hx x (by simp [hxl])
        rw [vl_fac ht e, Int.zero_add] at h1
        rcases Int.mul_eq_zero.1 h1 with h2 | h2
        · exact absurd (show x = a by omega) fun e => hna (e ▸ hxl)
        · exact h2
      simp; omega
/-- Points that are no roots. -/
theorem nonroots {p : Se} {N : Nat} (h : MP.Se.Dg p N) (k : Nat) : ∃ l : List Int, l.Nodup ∧ l.length = k ∧ ∀ x ∈ l, x.natAbs ≤ N + k ∧ MP.Se.vl p x ≠ 0 := by
  let L : List Int := List.map (fun i : Nat => (i : Int)) (List.range (N + k))
  have hL : L.Nodup := List.Pairwise.map (fun i : Nat => (i : Int)) (fun a b h => by omega) List.nodup_range
  have h1 : (L.filter fun x => MP.Se.vl p x == 0).length ≤ N := roots_le N h (hL.filter _) fun x hx => by
    have := (List.mem_filter.1 hx).2; simpa using this
  have h2 : L.length = (L.filter fun x => MP.Se.vl p x == 0).length + (L.filter fun x => !(MP.Se.vl p x == 0)).length := by
    generalize L = M
    induction M with
    | nil => rfl
    | cons a M ih =>
      simp only [List.filter_cons]
      cases (MP.Se.vl p a == 0) <;> simp <;> omega
  have h3 : L.length = N + k := by simp [L]
  refine ⟨(L.filter fun x => !(MP.Se.vl p x == 0)).take k, (hL.filter _).sublist (List.take_sublist _ _), by rw [List.length_take]; omega, fun x hx => ?_⟩
  have h4 := List.mem_filter.1 (List.mem_of_mem_take hx)
  refine ⟨?_, by simpa using h4.2⟩
  obtain ⟨i, hi, rfl⟩ := List.mem_map.1 h4.1
  have := List.mem_range.1 hi
  omega
theorem val_le {M X : Nat} {x : Int} (hx : x.natAbs ≤ X) (hX : 1 ≤ X) : ∀ (n : Nat) {p : Se}, MP.Se.Bd p (n + 1) → (∀ i, (p i).natAbs ≤ M) → (MP.Se.vl p x).natAbs ≤ (n + 1) * M * X ^ n
  | 0, p, h, hM => by rw [const_at h]; simpa using hM 0
  | n + 1, p, h, hM => by
    rw [MP.Se.vl_split ⟨_, h⟩]
    have ih := val_le hx hX n (p := MP.Se.tl p) h.tl fun i => hM (i + 1)
    have h1 : (x * MP.Se.vl (MP.Se.tl p) x).natAbs ≤ X * ((n + 1) * M * X ^ n) := by rw [Int.natAbs_mul]; exact Nat.mul_le_mul hx ih
    have h2 := hM 0
    have h3 : M ≤ M * X ^ (n + 1) := Nat.le_mul_of_pos_right _ (Nat.pow_pos hX)
    have h4 : (n + 1 + 1) * M * X ^ (n + 1) = X * ((n + 1) * M * X ^ n) + M * X ^ (n + 1) := by rw [Nat.pow_succ]; grind
    omega
/-- A divisor's coefficients. -/
theorem div_le {P g L : Se} {N M : Nat} (hP : MP.Se.Dg P N) (hg : MP.Se.Fn g) (hL : MP.Se.Fn L) (e : P = g * L) (hM : ∀ i, (P i).natAbs ≤ M) (i : Nat) : (L i).natAbs ≤ (4 * N + 5) ^ N * ((N + 1) * M * (2 * N + 1) ^ N) := by
  have hL0 : L ≠ MP.Se.c 0 := fun k => hP.ne (by rw [e, k, MP.Se.mul_zero])
  have hg0 : g ≠ MP.Se.c 0 := fun k => hP.ne (by rw [e, k, MP.Se.zero_mul])
  obtain ⟨n, hn⟩ := hL.dg hL0
  obtain ⟨m, hm⟩ := hg.dg hg0
  have hmn := (e ▸ hm.mul hn).uniq hP
  obtain ⟨l, h1, h2, h3⟩ := nonroots hP (n + 1)
  have h4 := coef_le (X := 2 * N + 1) n (V := (N + 1) * M * (2 * N + 1) ^ N) hn.2 h1 h2 (fun x hx => by
    obtain ⟨h5, h6⟩ := h3 x hx
    refine ⟨by omega, Nat.le_trans ?_ (val_le (X := 2 * N + 1) (x := x) (by omega) (by omega) N hP.2 hM)⟩
    rw [e, MP.Se.vl_mul hg hL] at h6 ⊢
    rw [Int.natAbs_mul]
    refine Nat.le_mul_of_pos_left _ ?_
    have : MP.Se.vl g x ≠ 0 := fun k => h6 (by rw [k, Int.zero_mul])
    omega) i
  refine Nat.le_trans h4 (Nat.mul_le_mul_right _ ?_)
  rw [show 3 + 2 * (2 * N + 1) = 4 * N + 5 by omega]
  exact Nat.pow_le_pow_right (by omega) (by omega)
end Go.Proofs.Ytnidohbbimfpjaa.MS
