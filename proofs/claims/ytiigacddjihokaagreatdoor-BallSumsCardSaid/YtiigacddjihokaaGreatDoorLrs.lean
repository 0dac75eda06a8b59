/-
 An answer, whichever.
-/
import Derived.Test.YtiigacddjihokaaGreatDoorLref0
namespace Go.Proofs.YtiigacddjihokaaGreatDoor
open Go.RowKit
set_option linter.unusedVariables false

/-- What comes of a call that may be an error: the ball, or the zero ball and the error's number. -/
def RsIs (c : Prop) (A B Q x R1 R2 R3 R4 : Int) : Prop := (c ∧ R1 = A ∧ R2 = B ∧ R3 = Q ∧ R4 = 0) ∨ (¬ c ∧ R1 = 0 ∧ R2 = 0 ∧ R3 = 0 ∧ R4 = x)
theorem RsIs.ex (c : Prop) (A B Q x : Int) : ∃ R1 R2 R3 R4, RsIs c A B Q x R1 R2 R3 R4 := by
 by_cases h : c
 ·exact ⟨_, _, _, _, .inl ⟨h, rfl, rfl, rfl, rfl⟩⟩
 ·exact ⟨_, _, _, _, .inr ⟨h, rfl, rfl, rfl, rfl⟩⟩
theorem RsIs.calls {c : Prop} {A B Q x R1 R2 R3 R4 : Int} {f : FuncId} {args : Array Value} {w : World} {k : Nat} (hR : RsIs c A B Q x R1 R2 R3 R4) (hy : c → Calls Tryz.prog f args w (OuL w A B Q k)) (hn : ¬ c → Calls Tryz.prog f args w (ErrL w x)) : Calls Tryz.prog f args w (OuR w R1 R2 R3 R4 k) := by
 rcases hR with ⟨h, rfl, rfl, rfl, rfl⟩ | ⟨h, rfl, rfl, rfl, rfl⟩
 ·exact (hy h).mono fun _ _ h => OuR.ok h
 ·exact (hn h).mono fun _ _ h => OuR.err h
end Go.Proofs.YtiigacddjihokaaGreatDoor
