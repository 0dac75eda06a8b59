/-
  A dyad's integer laid anew.
-/
import Derived.Test.YtiigacddjihokaaGreatDoorLcut
namespace Go.Proofs.YtiigacddjihokaaGreatDoor
open Go.RowKit
set_option linter.unusedVariables false

section
variable {w : World} {g n c n' c' : Nat} {b b' : Bool} {A A' : Option Addr} {e : Int}
theorem Dx.putM (x : Dx w g b A n c e) (b' : Bool) (A' : Option Addr) (n' c' : Nat) : Dx ((w.setCell ⟨g, 0, none⟩ (.bool b')).setCell ⟨g, 1, none⟩ (.slice A' n' c')) g b' A' n' c' e := by
  unfold Dx at x ⊢
  simp [World.setCell, Array.getElem?_modify, x]
theorem Dx.cellM {z : Addr} {u : Value} (x : Dx w g b A n c e) (hub : ∀ y, u ≠ .bool y) (hus : ∀ y n c, u ≠ .slice y n c) (hz : w.cell? z = some u) : ((w.setCell ⟨g, 0, none⟩ (.bool b')).setCell ⟨g, 1, none⟩ (.slice A' n' c')).cell? z = some u := by
  have e0 : z ≠ ⟨g, 0, none⟩ := fun e => by
    rw [e, x.c0] at hz
    exact hub _ (Option.some.inj hz).symm
  have e1 : z ≠ ⟨g, 1, none⟩ := fun e => by
    rw [e, x.c1] at hz
    exact hus _ _ _ (Option.some.inj hz).symm
  rw [World.cell?_setCell_other _ _ _ _ e1.symm, World.cell?_setCell_other _ _ _ _ e0.symm]
  exact hz
theorem Rd.sputM {AA : Option Addr} {nn cc : Nat} {l : List Int} (hr : Rd w w.heap.size AA nn cc l) (x : Dx w g b A n c e) : Rd ((w.setCell ⟨g, 0, none⟩ (.bool b')).setCell ⟨g, 1, none⟩ (.slice A' n' c')) ((w.setCell ⟨g, 0, none⟩ (.bool b')).setCell ⟨g, 1, none⟩ (.slice A' n' c')).heap.size AA nn cc l := by
  refine Rd.more (B := w.heap.size) ?_ (by simp [World.setCell])
  refine ⟨hr.1, hr.2.1, hr.2.2.1, hr.2.2.2.1, fun hn => ?_⟩
  obtain ⟨d, off, e, hd, hc⟩ := hr.at_ hn
  exact ⟨d, off, e, hd, fun k hk => x.cellM (fun _ h => by cases h) (fun _ _ _ h => by cases h) (hc k hk)⟩
theorem Zr.putM {bb : Bool} {AA : Option Addr} {nn cc k : Nat} {X : Int} (hr : Zr w bb AA nn cc X k) (x : Dx w g b A n c e) : Zr ((w.setCell ⟨g, 0, none⟩ (.bool b')).setCell ⟨g, 1, none⟩ (.slice A' n' c')) bb AA nn cc X k := by
  obtain ⟨l, h1, h2, h3⟩ := hr
  exact ⟨l, h1.sputM x, h2, h3⟩
theorem Tab.putM (h : Tab w) (x : Dx w g b A n c e) : Tab ((w.setCell ⟨g, 0, none⟩ (.bool b')).setCell ⟨g, 1, none⟩ (.slice A' n' c')) := ⟨fun j hj => x.cellM (fun _ h => by cases h) (fun _ _ _ h => by cases h) (h.at_ j hj)⟩
end
end Go.Proofs.YtiigacddjihokaaGreatDoor
