/-
  The document's answer: Shr.
-/
import Derived.Test.YtcoidcbbdibnaaaTimes
namespace Go.Proofs.Ytcoidcbbdibnaaa
open Go.RowKit
set_option linter.unusedVariables false

theorem Ow.set {w : World} {base g m cap : Nat} {l : List Int} (h : Ow w base (.slice (some ⟨g, 0, none⟩) m cap) l) (hm : l.length = m) (j : Nat) (x : Int) :
    Ow (w.setCell ⟨g, j, none⟩ (.int .u64 x)) base (.slice (some ⟨g, 0, none⟩) m cap) (l.set j x) ∧ Below base w (w.setCell ⟨g, j, none⟩ (.int .u64 x)) := by
  subst hm
  have h1 := World.ownsRow.stored h j (.int .u64 x)
  have hb := (World.ownsRow.lt h g rfl).1
  refine ⟨?_, (Below.refl _ _).setCell hb _⟩
  unfold Ow
  rw [List.length_set, List.map_set]
  exact h1.1
theorem Ow.cell {w : World} {base g m cap : Nat} {l : List Int} (h : Ow w base (.slice (some ⟨g, 0, none⟩) m cap) l) (hm : l.length = m) {j : Nat} (hj : j < l.length) : w.cell? ⟨g, j, none⟩ = some (.int .u64 l[j]) ∧ w.frozen? ⟨g, j, none⟩ = false := by
  subst hm
  refine ⟨?_, World.ownsRow.frozenAt h j⟩
  rw [World.ownsRow.cellAt h j (by omega)]
  simp [hj]
theorem Ow.form' {w : World} {base m : Nat} {v : Value} {l : List Int} (h : Ow w base v l) (hm : l.length = m) (hp : 0 < m) : ∃ g cap, v = .slice (some ⟨g, 0, none⟩) m cap ∧ base ≤ g ∧ g < w.heap.size := by
  subst hm
  exact World.ownsRow.form h hp
def SrRel (w : World) (D : List Int) (r : Nat) (sv yv : Value) (j : Nat) (wr : World) : Prop := ∃ L y, yv = .int .u64 y ∧ SrInv D r j L y ∧ Ow wr w.heap.size sv L ∧ Below w.heap.size w wr

end Go.Proofs.Ytcoidcbbdibnaaa
