/-
  polyz: Add, Sub.
-/
import Derived.Test.YtnidohbbimfpjaaVsum
namespace Go.Proofs.Ytnidohbbimfpjaa
open Go.RowKit
open MP.Se (nf co)
set_option linter.unusedVariables false
set_option maxRecDepth 100000

theorem Pe.kto {w : World} {B n c J K : Nat} {A : Option Addr} {l : List Int} (h : Pe w B A n c l J) (hK : J ≤ K) : Pe w B A n c l K := ⟨h.1, h.2.kto hK⟩
theorem Tm.two {w : World} {g B n c n2 c2 J : Nat} {A A2 : Option Addr} {l l2 : List Int} (h : Pe w B A n c l J) (h2 : Pe w B A2 n2 c2 l2 J) {t : TypeId} (hg : w.heap[g]? = some (.cells #[.slice A n c, .slice A2 n2 c2] t (0, 0))) : Tm w g B [(A, n, c, l), (A2, n2, c2, l2)] J :=
  ⟨(Array.getElem?_eq_some_iff.1 hg).1, fun k hk => by
    rw [cell_of_row w g k _ _ (0, 0) hg]
    rcases k with _ | _ | k
    · exact ⟨rfl, h⟩
    · exact ⟨rfl, h2⟩
    · simp at hk; omega⟩
theorem Tm.three {w : World} {g B n c n2 c2 n3 c3 J : Nat} {A A2 A3 : Option Addr} {l l2 l3 : List Int} (h : Pe w B A n c l J) (h2 : Pe w B A2 n2 c2 l2 J) (h3 : Pe w B A3 n3 c3 l3 J) {t : TypeId} (hg : w.heap[g]? = some (.cells #[.slice A n c, .slice A2 n2 c2, .slice A3 n3 c3] t (0, 0))) : Tm w g B [(A, n, c, l), (A2, n2, c2, l2), (A3, n3, c3, l3)] J :=
  ⟨(Array.getElem?_eq_some_iff.1 hg).1, fun k hk => by
    rw [cell_of_row w g k _ _ (0, 0) hg]
    rcases k with _ | _ | _ | k
    · exact ⟨rfl, h⟩
    · exact ⟨rfl, h2⟩
    · exact ⟨rfl, h3⟩
    · simp at hk; omega⟩
theorem OutS.of {w w1 w' : World} {s : MP.Se} {K : Nat} {e : Ending} (h : OutS w1 s K e w') (hb : Below w.heap.size w w1) : OutS w s K e w' := by
  obtain ⟨L, h1, h2, A, n, c, e, hp, h3⟩ := h
  exact ⟨L, h1, h2, A, n, c, e, hp.more hb.size, bthen hb h3⟩
theorem PTimesS_any {A A2 : Option Addr} {n c n2 c2 J J2 K : Nat} {b : Bool} {X : Int} {l : List Int} {w : World} (h : Pd w w.heap.size A n c l J) (z : Zr w b A2 n2 c2 X J2) (hK : J + J2 ≤ K) (hK2 : K ≤ 1000000) :
    Calls Try.prog 24 #[.slice A n c, .agg #[.bool b, .slice A2 n2 c2]] w (OutS w (MP.Se.sm X (co l)) K) := by
  refine (PTimes_any h z hK hK2).mono ?_
  intro e w' h
  exact ⟨_, MP.Se.nm_nf _, MP.Se.co_mulr l X, h⟩
theorem PNormS_any {A : Option Addr} {n c J : Nat} {l : List Int} {w : World} (h : Pd w w.heap.size A n c l J) (hJ : J ≤ 1000000) :
    Calls Try.prog 58 #[.slice A n c] w (OutS w (co l) J) := by
  refine (PNorm_any h hJ).mono ?_
  intro e w' h
  exact ⟨_, MP.Se.nm_nf _, MP.Se.co_nf l, h⟩
end Go.Proofs.Ytnidohbbimfpjaa
