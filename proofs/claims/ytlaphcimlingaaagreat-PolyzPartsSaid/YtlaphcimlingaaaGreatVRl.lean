/-
  polyz: fits; how a law that asks the document begins.
-/
import Derived.Test.YtlaphcimlingaaaGreatVlaw
import Derived.Test.YtlaphcimlingaaaGreatVRo
import Derived.Test.YtlaphcimlingaaaGreatVRs
namespace Go.Proofs.YtlaphcimlingaaaGreat
open Go.RowKit
open MP.Se (nf co)
set_option linter.unusedVariables false
set_option maxRecDepth 100000

theorem Pn.pn {w : World} {A : Option Addr} {n c J : Nat} {l : List Int} (p : Pn w A n c l J) : Pn w A n c l J := p
theorem Lfits_any {A : Option Addr} {n c : Nat} {l : List Int} {w : World} (p : Pa w A n c l) :
    Calls Tryz.prog 15 #[.slice A n c] w fun e w' => ∃ β, e = .returned (.bool β) ∧ (β = true → Lb l (co l) 14 ∧ n ≤ 14 ∧ Pe w' w'.heap.size A n c l 3) ∧ Below w.heap.size w w' := by
  have hl := p.1
  go_enter Tryz.func15, Tryz.ntmps15
  go_wp2_with fail
  refine (RFits_any (N := 14) (M := 3) p (by omega) (by omega)).mono ?_
  rintro e v1 ⟨β, rfl, h1, hb⟩
  go_wp2
  go_ret
  exact ⟨_, rfl, fun h => ⟨Lb.mk0 (by have := (h1 h).1; omega), (h1 h).1, (h1 h).2.pe⟩, hb⟩
end Go.Proofs.YtlaphcimlingaaaGreat
