/-
  polyz: Gcd and Simple, told by what they are.
-/
import Derived.Test.YtnidohbbimfpjaaVsgc
namespace Go.Proofs.Ytnidohbbimfpjaa
open Go.RowKit
open MP.Se (nf co)
set_option linter.unusedVariables false
set_option maxRecDepth 100000

theorem pgR_of {B : Nat} : ∀ {N : Nat} {P Q : List Int} {f s : Int} {G : List Int}, MS.Pg (fun x => Si x B) N P Q f s G → PgR B N P Q f s G
  | 0, _, _, _, _, _, h => h
  | N + 1, P, Q, f, s, G, h => by
    rcases h with h | h | ⟨r, Q2, u, f2, s2, d, gap, h1, h2, h3, h4, h5, h6⟩
    · exact .inl h
    · exact .inr (.inl h)
    · exact .inr (.inr ⟨r, Q2, u, f2, s2, d, gap, h1, h2, h3, h4, h5, pgR_of h6⟩)
theorem Pd.si {w : World} {B n c J : Nat} {A : Option Addr} {l : List Int} (h : Pd w B A n c l J) : ∀ x ∈ l, Si x J := fun x hx => by
  obtain ⟨k, hk, rfl⟩ := List.getElem_of_mem hx
  obtain ⟨d, o, _, _, hc⟩ := h.at_ (by have := h.len; omega)
  obtain ⟨b, A, n, c, _, _, z⟩ := hc k hk
  exact z.si
theorem si_co {l : List Int} {J : Nat} (h : ∀ x ∈ l, Si x J) (i : Nat) : ((co l) i).natAbs ≤ Wd ^ J := by
  by_cases hi : i < l.length
  · rw [MP.Se.co_at hi]; exact Nat.le_of_lt (h _ (List.getElem_mem hi))
  · rw [MP.Se.co_out (by omega)]; exact Nat.zero_le _
theorem co_si {l : List Int} {M J : Nat} (h : ∀ i, ((co l) i).natAbs ≤ M) (hM : M < Wd ^ J) : ∀ x ∈ l, Si x J := fun x hx => by
  obtain ⟨k, hk, rfl⟩ := List.getElem_of_mem hx
  have := h k
  rw [MP.Se.co_at hk] at this
  exact Nat.lt_of_le_of_lt this hM
theorem kK_lt {J D B : Nat} (hD : D ≤ 1000) (hD1 : 1 ≤ D) (hB : (J + 1) * D ≤ B) : MS.kK D (Wd ^ J) < Wd ^ B := by
  have h1 : D * Wd ^ J < Wd ^ (J + 1) := by
    rw [Nat.pow_succ, Nat.mul_comm]
    exact Nat.mul_lt_mul_of_pos_left (by unfold Wd; omega) (Nat.pow_pos Wd0)
  unfold MS.kK
  refine Nat.lt_of_lt_of_le (Nat.pow_lt_pow_left h1 (by omega)) ?_
  rw [← Nat.pow_mul]
  exact Nat.pow_le_pow_right Wd0 hB
theorem gcd_tr {l l2 : List Int} {J D B : Nat} (h : ∀ x ∈ l, Si x J) (h2 : ∀ x ∈ l2, Si x J) (hD : l.length + l2.length ≤ D + 2) (hD1 : 1 ≤ D) (hD2 : D ≤ 1000) (hB : (J + 1) * D ≤ B) :
    ∃ N G, PgL B N (primL l) (primL l2) G ∧ MP.Se.Gc (MP.Se.sm (Nat.gcd (ctL l).natAbs (ctL l2).natAbs : Int) (co G)) (co l) (co l2) ∧
      (nf l ≠ [] ∨ nf l2 ≠ [] → MP.Se.Nm G ∧ MP.Se.Pm (co G) ∧ G ≠ [] ∧ 0 < (co G) (G.length - 1) ∧ 0 < Nat.gcd (ctL l).natAbs (ctL l2).natAbs) ∧ (nf l ≠ [] → G.length ≤ (nf l).length) := by
  have e1 := MP.Se.nf_len l; have e2 := MP.Se.nf_len l2
  obtain ⟨N, G, h3, h4⟩ := MS.gcd_ex (Sz := fun x => Si x B) (M := Wd ^ J) (D := D) (si_co h) (si_co h2) (Nat.pow_pos Wd0) (by omega) hD1 fun x hx => Nat.lt_of_le_of_lt hx (kK_lt hD2 hD1 hB)
  refine ⟨N, G, ?_, h4⟩
  unfold MS.PgLz at h3
  unfold PgL
  split
  · next e => rw [if_pos e] at h3; exact pgR_of h3
  · next e => rw [if_neg e] at h3; exact pgR_of h3
theorem dv_zero {p : MP.Se} (h : MP.Se.Dv (MP.Se.c 0) p) : p = MP.Se.c 0 := by
  obtain ⟨t, _, e⟩ := h
  rw [e, MP.Se.zero_mul]
/-- What Gcd hands back. -/
structure Gd (L l l2 : List Int) : Prop where
  gc : MP.Se.Gc (co L) (co l) (co l2)
  nm : MP.Se.Nm L
  pos : L ≠ [] → 0 < (co L) (L.length - 1)
theorem Gd.nil {L l l2 : List Int} (h : Gd L l l2) (e : L = []) : co l = MP.Se.c 0 ∧ co l2 = MP.Se.c 0 := by
  have h1 := h.gc.left; have h2 := h.gc.right
  rw [e, MP.Se.co_nil] at h1 h2
  exact ⟨dv_zero h1, dv_zero h2⟩
theorem gc_zz {g : MP.Se} (h : MP.Se.Gc g (MP.Se.c 0) (MP.Se.c 0)) : g = MP.Se.c 0 := dv_zero (h.gr _ (MP.Se.Fn.c 0) (MP.Se.Dv.refl _) (MP.Se.Dv.refl _))
theorem nm_zero {L : List Int} (h : MP.Se.Nm L) (e : co L = MP.Se.c 0) : L = [] := by rw [← MP.Se.nf_id h]; exact MP.Se.nf_nil_iff.2 e
theorem Gd.eq {L M l l2 : List Int} (h : Gd L l l2) (hg : MP.Se.Gc (co M) (co l) (co l2)) (hm : MP.Se.Nm M) (hp : M ≠ [] → 0 < (co M) (M.length - 1)) : L = M := by
  by_cases hL : L = []
  · obtain ⟨e1, e2⟩ := h.nil hL
    rw [e1, e2] at hg
    rw [hL, nm_zero hm (gc_zz hg)]
  · by_cases hM : M = []
    · have h1 := hg.left; have h2 := hg.right
      rw [hM, MP.Se.co_nil] at h1 h2
      have h3 := h.gc
      rw [dv_zero h1, dv_zero h2] at h3
      rw [hM, nm_zero h.nm (gc_zz h3)]
    · exact MP.Se.nm_ext h.nm hm (hg.same h.gc (MP.Se.nm_dg hm hM) (hp hM) (MP.Se.nm_dg h.nm hL) (h.pos hL)).1
theorem Gd.one {L l l2 : List Int} (h : Gd L l l2) (hg : MP.Se.Gc (MP.Se.c 1) (co l) (co l2)) : L = [1] :=
  h.eq (M := [1]) (by rw [show co [1] = MP.Se.c 1 from MP.Se.ext fun i => by cases i <;> simp [co, MP.Se.c]]; exact hg) (by simp [MP.Se.Nm]) fun _ => by simp [co]
theorem Gd.ne {L l l2 : List Int} (h : Gd L l l2) (h0 : co l ≠ MP.Se.c 0) : L ≠ [] := fun e => h0 (h.nil e).1
theorem Gd.len {L l l2 : List Int} {N : Nat} (h : Gd L l l2) (h0 : co l ≠ MP.Se.c 0) (hb : MP.Se.Bd (co l) N) : L.length ≤ N := by
  have hL := h.ne h0
  obtain ⟨n, hn, hlt⟩ := hb.dg h0
  have := h.gc.left.le (MP.Se.nm_dg h.nm hL) hn
  omega
theorem gd_of {L l l2 G : List Int} (hL : co L = MP.Se.sm (Nat.gcd (ctL l).natAbs (ctL l2).natAbs : Int) (co G)) (hm : MP.Se.Nm L) (hg : MP.Se.Gc (MP.Se.sm (Nat.gcd (ctL l).natAbs (ctL l2).natAbs : Int) (co G)) (co l) (co l2))
    (hp : nf l ≠ [] ∨ nf l2 ≠ [] → MP.Se.Nm G ∧ MP.Se.Pm (co G) ∧ G ≠ [] ∧ 0 < (co G) (G.length - 1) ∧ 0 < Nat.gcd (ctL l).natAbs (ctL l2).natAbs) : Gd L l l2 := by
  refine ⟨by rw [hL]; exact hg, hm, fun h0 => ?_⟩
  have h1 : nf l ≠ [] ∨ nf l2 ≠ [] := by
    by_cases e1 : nf l = []
    · by_cases e2 : nf l2 = []
      · rw [MP.Se.nf_nil_iff.1 e1, MP.Se.nf_nil_iff.1 e2] at hg
        exact absurd (nm_zero hm (by rw [hL]; exact gc_zz hg)) h0
      · exact .inr e2
    · exact .inl e1
  obtain ⟨g1, _, g2, g3, g4⟩ := hp h1
  have hc : ((Nat.gcd (ctL l).natAbs (ctL l2).natAbs : Nat) : Int) ≠ 0 := by omega
  have d1 := (MP.Se.nm_dg g1 g2).sm hc
  rw [← hL] at d1
  have := d1.uniq (MP.Se.nm_dg hm h0)
  rw [← this, hL, MP.Se.sm_at]
  exact Int.mul_pos (by omega) g3
theorem PGcdG_any {A A2 : Option Addr} {n c n2 c2 J D B : Nat} {l l2 : List Int} {w : World} (h : Pd w w.heap.size A n c l J) (h2 : Pd w w.heap.size A2 n2 c2 l2 J) (hJ : J ≤ 900) (hn : n ≤ 100) (hn2 : n2 ≤ 100) (hD : n + n2 ≤ D + 2) (hD1 : 1 ≤ D) (hB : (J + 1) * D ≤ B) (hB2 : B ≤ 1000) (hB3 : J + 1 ≤ B) :
    Calls Try.prog 18 #[.slice A n c, .slice A2 n2 c2] w fun e w' => ∃ L, Gd L l l2 ∧ OutP w L (2 * B + 1) e w' := by
  have hD2 : D ≤ B := Nat.le_trans (Nat.le_mul_of_pos_left D (Nat.succ_pos J)) hB
  obtain ⟨N, G, h3, h4, h5, _⟩ := gcd_tr h.si h2.si (by rw [h.len, h2.len]; exact hD) hD1 (by omega) hB
  refine (PGcd_any h h2 hJ hJ hn hn2 hB2 hB3 hB3 h3).mono ?_
  rintro e w' ⟨L, hm, hL, ho⟩
  exact ⟨L, gd_of hL hm h4 h5, ho⟩
theorem dr_le {l : List Int} {J : Nat} (h : ∀ x ∈ l, Si x J) (hn : l.length ≤ 100) (i : Nat) : ((MP.Se.dr (co l)) i).natAbs ≤ Wd ^ (J + 1) := by
  rw [MP.Se.dr_at, Int.natAbs_mul, Int.natAbs_natCast]
  by_cases hi : i + 1 < l.length
  · rw [Nat.pow_succ, Nat.mul_comm]
    exact Nat.mul_le_mul (si_co h _) (by unfold Wd; omega)
  · rw [MP.Se.co_out (by omega)]; simp
/-- What Simple hands back. -/
structure Sd (L l : List Int) : Prop where
  nm : MP.Se.Nm L
  ex : ∃ G, Gd G (primL l) (nf (MP.Se.ls ((primL l).length - 1) (MP.Se.dr (co (primL l))))) ∧ co (primL l) = co G * co L
theorem dr_list (P : List Int) : co (nf (MP.Se.ls (P.length - 1) (MP.Se.dr (co P)))) = MP.Se.dr (co P) := by rw [MP.Se.co_nf, MP.Se.co_ls (MP.Se.Bd.dr (MP.Se.co_bd P))]
theorem prim_si {l : List Int} {J : Nat} (h : ∀ x ∈ l, Si x J) : ∀ x ∈ primL l, Si x J := by
  by_cases h0 : nf l = []
  · rw [(MS.nf_nil_all h0).1]; simp
  · have hp := MS.primL_pr h0
    intro x hx
    obtain ⟨k, hk, rfl⟩ := List.getElem_of_mem hx
    have h1 := hp.le k
    rw [MP.Se.co_at hk] at h1
    by_cases hkl : k < l.length
    · rw [MP.Se.co_at hkl] at h1
      exact Sm.le (h _ (List.getElem_mem hkl)) h1
    · have := hp.len; have := MP.Se.nf_len l; omega
set_option maxHeartbeats 2000000 in
theorem PSimpleG_any {A : Option Addr} {n c J D B K : Nat} {l : List Int} {w : World} (h : Pd w w.heap.size A n c l J) (hJ : J ≤ 800) (hn : n ≤ 100) (hD : n + n ≤ D + 3) (hD1 : 1 ≤ D) (hB : (J + 2) * D ≤ B) (hB2 : B ≤ 1000) (hB3 : J + 3 ≤ B) (hK : B + (n + 1) * (2 * B + 3) ≤ K) (hK2 : K ≤ 900000) (h0 : nf l ≠ []) :
    Calls Try.prog 28 #[.slice A n c] w fun e w' => ∃ L, Sd L l ∧ OutP w L K e w' := by
  have hp := MS.primL_pr h0
  have hps := prim_si h.si
  have hpl := hp.len; have hl := h.len; have hnl := MP.Se.nf_len l
  have hD2 : D ≤ B := Nat.le_trans (Nat.le_mul_of_pos_left D (Nat.succ_pos _)) hB
  obtain ⟨P, hP⟩ : ∃ P, primL l = P := ⟨_, rfl⟩
  rw [hP] at hp hps hpl
  have hP0 : nf P ≠ [] := by
    rw [MP.Se.nf_id hp.nm]; intro e; rw [e] at hpl; exact h0 (List.eq_nil_of_length_eq_zero hpl.symm)
  have hs1 : ∀ x ∈ P, Si x (J + 1) := fun x hx => (hps x hx).mono (by omega)
  have hs2 : ∀ x ∈ nf (MP.Se.ls (P.length - 1) (MP.Se.dr (co P))), Si x (J + 1) := by
    intro x hx
    have hx2 : x ∈ MP.Se.ls (P.length - 1) (MP.Se.dr (co P)) := by
      have : nf (MP.Se.ls (P.length - 1) (MP.Se.dr (co P))) <+: MP.Se.ls (P.length - 1) (MP.Se.dr (co P)) := by
        rw [nf]; exact List.reverse_suffix.1 (by rw [List.reverse_reverse]; exact List.dropWhile_suffix _)
      exact this.subset hx
    obtain ⟨k, hk, rfl⟩ := List.getElem_of_mem hx2
    rw [MP.Se.ls_at]
    rw [MP.Se.len_ls] at hk
    rw [MP.Se.dr_at]
    have hk2 : k + 1 < P.length := by omega
    have hi1 : Si ((k + 1 : Nat) : Int) 1 := Si.of_i64 (by omega) (by omega)
    rw [MP.Se.co_at hk2]
    exact (hi1.mul (hps _ (List.getElem_mem hk2))).mono (by omega)
  have hdl : (nf (MP.Se.ls (P.length - 1) (MP.Se.dr (co P)))).length ≤ P.length - 1 := Nat.le_trans (MP.Se.nf_len _) (by rw [MP.Se.len_ls]; exact Nat.le_refl _)
  have hco := dr_list P
  obtain ⟨E, hE⟩ : ∃ E, nf (MP.Se.ls (P.length - 1) (MP.Se.dr (co P))) = E := ⟨_, rfl⟩
  rw [hE] at hs2 hdl hco
  obtain ⟨N, G, h3, h4, h5, h6⟩ := gcd_tr (D := D) (B := B) hs1 hs2 (by omega) hD1 (by omega) hB
  have hG := h6 hP0
  rw [MP.Se.nf_id hp.nm] at hG
  have hne := (MP.Se.Dv.ne h4.left (fun e => hP0 (MP.Se.nf_nil_iff.2 e)))
  refine (PSimple_any (K := K) h hJ hn hB2 hB3 (by omega) hP hE h3 hK hK2).mono ?_
  rintro e w' ⟨hb, A', n', c', rfl, hcase⟩
  rcases hcase _ rfl with ⟨h7, _⟩ | ⟨_, h7, _⟩ | ⟨_, L, hL, he, po⟩
  · exact absurd h7 hne
  · exact absurd h4.left h7
  · obtain ⟨S, hS⟩ : ∃ S, S = MP.Se.sm (Nat.gcd (ctL P).natAbs (ctL E).natAbs : Int) (co G) := ⟨_, rfl⟩
    have hbd : MP.Se.Bd S G.length := hS ▸ (MP.Se.co_bd G).sm
    have hco2 : co (nf (MP.Se.ls G.length S)) = S := by rw [MP.Se.co_nf, MP.Se.co_ls hbd]
    refine ⟨L, ⟨hL, nf (MP.Se.ls G.length S), ?_, by rw [hP, hco2, hS]; exact he⟩, A', n', c', rfl, po, hb⟩
    rw [hP, hE]
    exact gd_of (hco2.trans hS) (MP.Se.nm_nf _) h4 h5
/-- A divisor's numbers. -/
theorem quo_si {P g L : List Int} {J N : Nat} (h : ∀ x ∈ P, Si x J) (e : co P = co g * co L) (h0 : co P ≠ MP.Se.c 0) (hN : MP.Se.Bd (co P) (N + 1)) (hN2 : N ≤ 9) : ∀ x ∈ L, Si x (J + 2) := by
  obtain ⟨n, hn, hlt⟩ := hN.dg h0
  refine co_si (M := (4 * n + 5) ^ n * ((n + 1) * Wd ^ J * (2 * n + 1) ^ n)) (fun i => MS.div_le hn (MP.Se.co_fn g) (MP.Se.co_fn L) e (si_co h) i) ?_
  have h1 : (4 * n + 5) ^ n ≤ 41 ^ 9 := Nat.le_trans (Nat.pow_le_pow_left (by omega) n) (Nat.pow_le_pow_right (by omega) (by omega))
  have h2 : (2 * n + 1) ^ n ≤ 19 ^ 9 := Nat.le_trans (Nat.pow_le_pow_left (by omega) n) (Nat.pow_le_pow_right (by omega) (by omega))
  have h3 : (4 * n + 5) ^ n * ((n + 1) * Wd ^ J * (2 * n + 1) ^ n) ≤ 41 ^ 9 * (10 * Wd ^ J * 19 ^ 9) := Nat.mul_le_mul h1 (Nat.mul_le_mul (Nat.mul_le_mul_right _ (by omega)) h2)
  refine Nat.lt_of_le_of_lt h3 ?_
  have h4 : 41 ^ 9 * (10 * Wd ^ J * 19 ^ 9) = Wd ^ J * (41 ^ 9 * 10 * 19 ^ 9) := by
    generalize Wd ^ J = q; omega
  rw [h4, Nat.pow_add]
  exact Nat.mul_lt_mul_of_pos_left (by unfold Wd; decide) (Nat.pow_pos Wd0)
theorem Gd.len2 {L l l2 : List Int} {N : Nat} (h : Gd L l l2) (h0 : L ≠ []) (hb : MP.Se.Bd (co l) N) (hb2 : MP.Se.Bd (co l2) N) : L.length ≤ N := by
  have dL := MP.Se.nm_dg h.nm h0
  have hl := List.length_pos_iff.2 h0
  by_cases h1 : co l = MP.Se.c 0
  · by_cases h2 : co l2 = MP.Se.c 0
    · have h3 := h.gc
      rw [h1, h2] at h3
      exact absurd (nm_zero h.nm (gc_zz h3)) h0
    · obtain ⟨n, hn, hlt⟩ := hb2.dg h2
      have := h.gc.right.le dL hn
      omega
  · obtain ⟨n, hn, hlt⟩ := hb.dg h1
    have := h.gc.left.le dL hn
    omega
theorem gc_neg {g p q : MP.Se} (h : MP.Se.Gc g p q) : MP.Se.Gc (-g) p q := ⟨h.fn.neg, h.left.neg_left, h.right.neg_left, fun x a b c => (h.gr x a b c).neg⟩
theorem Gd.times {L l l2 L2 l3 l4 M : List Int} {s t : MP.Se} (h : Gd L l l2) (h2 : Gd L2 l3 l4) (e3 : co l3 = co l * s) (e4 : co l4 = co l2 * s) (hm : MP.Se.Nm M) (eM : co M = co L * t) (ht : t = s ∨ t = -s) (hs : MP.Se.Fn s) (hp : s = MP.Se.c 0 ∨ ∃ n, MP.Se.Dg t n ∧ 0 < t n) : L2 = M := by
  refine h2.eq ?_ hm fun hM => ?_
  · rw [e3, e4, eM]
    by_cases h0 : s = MP.Se.c 0
    · have ht0 : t = MP.Se.c 0 := by
        rcases ht with e | e
        · rw [e, h0]
        · rw [e, h0]; exact MP.Se.ext fun i => by cases i <;> rfl
      rw [h0, ht0, MP.Se.mul_zero, MP.Se.mul_zero, MP.Se.mul_zero]
      exact ⟨MP.Se.Fn.c 0, MP.Se.Dv.zero, MP.Se.Dv.zero, fun _ _ h _ => h⟩
    · have h3 := h.gc.mul (MP.Se.co_fn l) (MP.Se.co_fn l2) hs h0
      rcases ht with e | e
      · rw [e]; exact h3
      · rw [e, MP.Se.mul_neg]; exact gc_neg h3
  · have hL : L ≠ [] := fun e => hM (nm_zero hm (by rw [eM, e, MP.Se.co_nil, MP.Se.zero_mul]))
    rcases hp with h0 | ⟨n, hn, hpos⟩
    · exfalso
      have ht0 : t = MP.Se.c 0 := by
        rcases ht with e | e
        · rw [e, h0]
        · rw [e, h0]; exact MP.Se.ext fun i => by cases i <;> rfl
      exact hM (nm_zero hm (by rw [eM, ht0, MP.Se.mul_zero]))
    · have dL := MP.Se.nm_dg h.nm hL
      have d := dL.mul hn
      rw [← eM] at d
      rw [(MP.Se.nm_dg hm hM).uniq d, eM, (MP.Se.mul_bd dL.2 hn.2).2]
      exact Int.mul_pos (h.pos hL) hpos
theorem qt_bd {q t : MP.Se} {N : Nat} (hq : MP.Se.Fn q) (ht : MP.Se.Fn t) (h0 : q ≠ MP.Se.c 0) (h : MP.Se.Bd (q * t) N) : MP.Se.Bd t N := by
  by_cases h1 : t = MP.Se.c 0
  · rw [h1]; exact MP.Se.Bd.c0 _
  obtain ⟨m, hm⟩ := hq.dg h0
  obtain ⟨k, hk⟩ := ht.dg h1
  have hmk := hm.mul hk
  by_cases hN : N ≤ m + k
  · exact absurd (h _ hN) hmk.1
  · exact hk.2.le (by omega)
/-- A quotient's numbers, and how many. -/
theorem quo_all {P g L : List Int} {J N : Nat} (h : ∀ x ∈ P, Si x J) (e : co P = co g * co L) (hg : co g ≠ MP.Se.c 0) (hm : MP.Se.Nm L) (hN : MP.Se.Bd (co P) (N + 1)) (hN2 : N ≤ 9) : (∀ x ∈ L, Si x (J + 2)) ∧ L.length ≤ N + 1 := by
  refine ⟨?_, MP.Se.nm_len hm (qt_bd (MP.Se.co_fn g) (MP.Se.co_fn L) hg (e ▸ hN))⟩
  by_cases h0 : co P = MP.Se.c 0
  · have : co L = MP.Se.c 0 := by
      apply Classical.byContradiction
      intro h1
      obtain ⟨m, hm⟩ := (MP.Se.co_fn g).dg hg
      obtain ⟨k, hk⟩ := (MP.Se.co_fn L).dg h1
      exact (hm.mul hk).ne (e ▸ h0)
    rw [nm_zero hm this]; simp
  · exact quo_si h e h0 hN hN2
/-- What two lists have in common taken away, nothing is left in common. -/
theorem Gd.rest {L l l2 a b M : List Int} (h : Gd L l l2) (h0 : L ≠ []) (ea : co l = co L * co a) (eb : co l2 = co L * co b) (h2 : Gd M a b) : M = [1] := by
  refine h2.one ?_
  have h3 := h.gc
  rw [ea, eb, MP.Se.mul_comm, MP.Se.mul_comm (co L) (co b)] at h3
  exact h3.left_one (MP.Se.co_fn a) (MP.Se.co_fn b) fun e => h0 (nm_zero h.nm e)
end Go.Proofs.Ytnidohbbimfpjaa
