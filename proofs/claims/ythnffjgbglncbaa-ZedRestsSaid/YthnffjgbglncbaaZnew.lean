/-
  A new variable that a statement makes for an integer, wherever it lies.
-/
import Derived.Test.YthnffjgbglncbaaZint
import Derived.Deep.DeepCutAuto
namespace Go.Proofs.Ythnffjgbglncbaa
open Go.RowKit
set_option linter.unusedVariables false

/-- A new box, in a world that is otherwise as it was. -/
def BxNew (v : World) (X : Int) (k : Nat) (s : Value) (wx : World) : Prop :=
  ∃ g A n c, s = .pointer (some ⟨g, 0, none⟩) ∧ Bx wx g (ngB X) A n c ∧ Zn wx A n c X k ∧ v.heap.size ≤ g ∧ Below v.heap.size v wx
theorem BxNew.put {v wx : World} {X : Int} {k g n c n0 c0 : Nat} {b0 : Bool} {A A0 : Option Addr} (hv : Below v.heap.size v wx) (x : Bx wx g b0 A0 n0 c0) (hg : v.heap.size ≤ g) (z : Zn wx A n c X k) :
    BxNew v X k (.pointer (some ⟨g, 0, none⟩)) ((wx.setCell ⟨g, 0, none⟩ (.bool (ngB X))).setCell ⟨g, 1, none⟩ (.slice A n c)) :=
  ⟨g, A, n, c, rfl, x.put _ _ _ _, z.put x, hg, put_below hv hg _ _⟩
theorem BxNew.new {v wx : World} {X : Int} {k n c : Nat} {A : Option Addr} (hv : Below v.heap.size v wx) (z : Zn wx A n c X k) :
    BxNew v X k (.pointer (some ⟨wx.heap.size, 0, none⟩)) (wx.alloc (.cells #[.bool (ngB X), .slice A n c] 24)) :=
  ⟨wx.heap.size, A, n, c, rfl, Bx.new _ _ _ _ _, z.keep (below_alloc _ _), hv.size, bthen hv (below_alloc _ _)⟩
end Go.Proofs.Ythnffjgbglncbaa
