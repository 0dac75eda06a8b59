/-
  matrix: what Resultant hands back.
-/
import Derived.Test.YtbpamkpclofnbaaMres
import Derived.Test.YtbpamkpclofnbaaVgk
namespace Go.Proofs.Ytbpamkpclofnbaa
open Go.RowKit
open MP.Se (nf co)
set_option linter.unusedVariables false
set_option maxRecDepth 100000

theorem rvR_of {B : Nat} : ∀ {N : Nat} {P Q : List Int} {f s X : Int} {ng : Bool}, MS.Rv (fun x => Si x B) N P Q f s ng X → RvR B N P Q f s ng X
  | 0, _, _, _, _, _, _, h => h
  | N + 1, P, Q, f, s, X, ng, h => by
    rcases h with h | h | ⟨r, Q2, u, f2, s2, d, gap, h1, h2, h3, h4, h5, h6⟩
    · exact .inl h
    · exact .inr (.inl h)
    · exact .inr (.inr ⟨r, Q2, u, f2, s2, d, gap, h1, h2, h3, h4, h5, rvR_of h6⟩)
/-- The resultant of two lists of coefficients. -/
def rslZ (l l2 : List Int) : Int := if nf l = [] ∨ nf l2 = [] then 0 else MS.rsl (nf l) (nf l2)
theorem rsl_tr {l l2 : List Int} {J D B : Nat} (h : ∀ x ∈ l, Si x J) (h2 : ∀ x ∈ l2, Si x J) (hD : l.length + l2.length ≤ D) (hD1 : 1 ≤ D) (hD2 : D ≤ 1000) (hB : (J + 1) * D ≤ B) :
    ∃ N, if (nf l).length < (nf l2).length then RvR B N (nf l2) (nf l) 1 1 (bo2 (nf l2) (nf l)) (rslZ l l2) else RvR B N (nf l) (nf l2) 1 1 false (rslZ l l2) := by
  have hl1 := MP.Se.nf_len l; have hl2 := MP.Se.nf_len l2
  unfold rslZ
  by_cases h0 : nf l = [] ∨ nf l2 = []
  · rw [if_pos h0]
    refine ⟨1, ?_⟩
    rcases h0 with e | e
    · by_cases h3 : (nf l).length < (nf l2).length
      · rw [if_pos h3]; exact .inl ⟨e, rfl⟩
      · rw [if_neg h3]
        have : nf l2 = [] := List.eq_nil_of_length_eq_zero (by rw [e] at h3; have h4 : ¬ 0 < (nf l2).length := h3; omega)
        exact .inl ⟨this, rfl⟩
    · rw [if_neg (by rw [e]; simp)]; exact .inl ⟨e, rfl⟩
  · rw [if_neg h0]
    have hP0 : nf l ≠ [] := fun e => h0 (.inl e)
    have hQ0 : nf l2 ≠ [] := fun e => h0 (.inr e)
    have c1 : ∀ i, ((co (nf l)) i).natAbs ≤ Wd ^ J := fun i => by rw [MP.Se.co_nf]; exact si_co h i
    have c2 : ∀ i, ((co (nf l2)) i).natAbs ≤ Wd ^ J := fun i => by rw [MP.Se.co_nf]; exact si_co h2 i
    have hk := kK_lt (J := J) (B := B) hD2 hD1 hB
    obtain ⟨N, hN⟩ := MS.rv_all (Sz := fun x => Si x B) (K := (D * Wd ^ J) ^ D) (MP.Se.nm_nf l) (MP.Se.nm_nf l2) c1 c2 (Nat.pow_pos Wd0)
      (Nat.le_trans (Nat.pow_le_pow_left (Nat.mul_le_mul_right _ (show (nf l).length + (nf l2).length ≤ D by omega)) _) (Nat.pow_le_pow_right (Nat.mul_pos (show 0 < D by omega) (Nat.pow_pos Wd0)) (show (nf l).length + (nf l2).length ≤ D by omega)))
      (fun x hx => Nat.lt_of_le_of_lt hx (by unfold MS.kK at hk; exact hk)) hP0 hQ0
    refine ⟨N, ?_⟩
    by_cases h3 : (nf l).length < (nf l2).length
    · rw [if_pos h3] at hN ⊢; exact rvR_of hN
    · rw [if_neg h3] at hN ⊢; exact rvR_of hN
/-- Resultant. -/
theorem MResultant_is {A A2 : Option Addr} {n c n2 c2 J D B : Nat} {l l2 : List Int} {w : World} (h : Pd w w.heap.size A n c l J) (h2 : Pd w w.heap.size A2 n2 c2 l2 J) (hD : n + n2 ≤ D) (hD1 : 1 ≤ D) (hD2 : D ≤ 30) (hB : (J + 1) * D ≤ B) (hB2 : B ≤ 200) :
    Calls Try.prog 18 #[.slice A n c, .slice A2 n2 c2] w (OutZ w (rslZ l l2) (30 * (B + 2) + 1)) := by
  have hl := h.len; have hl2 := h2.len
  have hJ : J + 1 ≤ B := Nat.le_trans (Nat.le_mul_of_pos_right _ hD1) hB
  obtain ⟨N, hN⟩ := rsl_tr (D := D) h.si h2.si (by omega) hD1 (by omega) hB
  exact MResultant_any (h.kto (by omega)) (h2.kto (by omega)) (by omega) (by omega) hB2 (by omega) hN
end Go.Proofs.Ytbpamkpclofnbaa
