/-
  DERIVED. GIVEN WITH THE SEED: THE CARDS: each row of YtiigacddjihokaaDoorRows.lean that lists a variable, with what it lists TIED to the program's text (the seventh form; the later family's looks); each row that meets fmt, with fmt's text TOLD by the authors' own Lean function (tested against real Go, not proved from fmt's source: count such statements apart). THE CARD IS WHAT COUNTS. Prove the row's statement (the work); the ties are given (YtiigacddjihokaaDoorTie.lean); close each card by the builder's one call (the guide's Derived/Test/ToyasCard.lean, 'card_holds'). Laid BY PROGRAM, IN A SANDBOX (cutbox-door.mjs). By AI agents, Wed Nov 11 2026. No macro, syntax, notation, axiom, sorry.
-/
import Derived.Test.YtiigacddjihokaaDoorRows
import GoSem.ClaimSeven
namespace Go.Proofs.YtiigacddjihokaaDoor
namespace Rows

/-- THE TIED CARD OF 'hairlinelaw05.BallHolds'. -/
def ballHoldsCard : Claim7 := { stood := { row := ballHoldsRow, standIns := [], harness := (true, "9e3fb70ae873d8eb67ce5424f5421f979ae12420e7d3588a11d95529741f8076"), looks := false }, kinds := [], alts := [], laidByText := true, laidKinds := [.data], laidTests := true, laidLooks := .later }
def BallHoldsCardSaid : Prop := Claim7.holds Tryd.pinned (.plain (OpenSpec.ofChange ballHoldsSpec)) ballHoldsCard

/-- THE TIED CARD OF 'hairlinelaw05.BallTight'. -/
def ballTightCard : Claim7 := { stood := { row := ballTightRow, standIns := [], harness := (true, "9e3fb70ae873d8eb67ce5424f5421f979ae12420e7d3588a11d95529741f8076"), looks := false }, kinds := [], alts := [], laidByText := true, laidKinds := [.data], laidTests := true, laidLooks := .later }
def BallTightCardSaid : Prop := Claim7.holds Tryd.pinned (.plain (OpenSpec.ofChange ballTightSpec)) ballTightCard

/-- THE TIED CARD OF 'hairlinelaw05.BallOrder'. -/
def ballOrderCard : Claim7 := { stood := { row := ballOrderRow, standIns := [], harness := (true, "9e3fb70ae873d8eb67ce5424f5421f979ae12420e7d3588a11d95529741f8076"), looks := false }, kinds := [], alts := [], laidByText := true, laidKinds := [.data], laidTests := true, laidLooks := .later }
def BallOrderCardSaid : Prop := Claim7.holds Tryd.pinned (.plain (OpenSpec.ofChange ballOrderSpec)) ballOrderCard

/-- THE SECOND FORM's CARD OF 'hairlinelaw05.BallHolds'. -/
def ballHoldsUptoCard : Claim7 := { stood := { row := ballHoldsUptoRow, standIns := [], harness := (true, "9e3fb70ae873d8eb67ce5424f5421f979ae12420e7d3588a11d95529741f8076"), looks := false }, kinds := [], alts := [], laidByText := true, laidKinds := [.data], laidTests := true, laidLooks := .later }
def BallHoldsUptoCardSaid : Prop := Claim7.holds Tryd.pinned (.plain (OpenSpec.upto ballHoldsSpec)) ballHoldsUptoCard

/-- THE SECOND FORM's CARD OF 'hairlinelaw05.BallTight'. -/
def ballTightUptoCard : Claim7 := { stood := { row := ballTightUptoRow, standIns := [], harness := (true, "9e3fb70ae873d8eb67ce5424f5421f979ae12420e7d3588a11d95529741f8076"), looks := false }, kinds := [], alts := [], laidByText := true, laidKinds := [.data], laidTests := true, laidLooks := .later }
def BallTightUptoCardSaid : Prop := Claim7.holds Tryd.pinned (.plain (OpenSpec.upto ballTightSpec)) ballTightUptoCard

/-- THE SECOND FORM's CARD OF 'hairlinelaw05.BallOrder'. -/
def ballOrderUptoCard : Claim7 := { stood := { row := ballOrderUptoRow, standIns := [], harness := (true, "9e3fb70ae873d8eb67ce5424f5421f979ae12420e7d3588a11d95529741f8076"), looks := false }, kinds := [], alts := [], laidByText := true, laidKinds := [.data], laidTests := true, laidLooks := .later }
def BallOrderUptoCardSaid : Prop := Claim7.holds Tryd.pinned (.plain (OpenSpec.upto ballOrderSpec)) ballOrderUptoCard
end Rows
end Go.Proofs.YtiigacddjihokaaDoor
