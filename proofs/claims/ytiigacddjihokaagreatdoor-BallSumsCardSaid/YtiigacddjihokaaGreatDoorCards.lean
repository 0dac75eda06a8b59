/-
  DERIVED. GIVEN WITH THE SEED: THE CARDS: each row of YtiigacddjihokaaGreatDoorRows.lean that lists a variable, with what it lists TIED to the program's text (the seventh form; the later family's looks); each row that meets fmt, with fmt's text TOLD by the authors' own Lean function (tested against real Go, not proved from fmt's source: count such statements apart). THE CARD IS WHAT COUNTS. Prove the row's statement (the work); the ties are given (YtiigacddjihokaaGreatDoorTie.lean); close each card by the builder's one call (the guide's Derived/Test/ToyasCard.lean, 'card_holds'). Laid BY PROGRAM, IN A SANDBOX (cutbox-door.mjs). By AI agents, Wed Nov 11 2026. No macro, syntax, notation, axiom, sorry.
-/
import Derived.Test.YtiigacddjihokaaGreatDoorRows
import GoSem.ClaimSeven
namespace Go.Proofs.YtiigacddjihokaaGreatDoor
namespace Rows

/-- THE TIED CARD OF 'hairlinelaw05.BallStands'. -/
def ballStandsCard : Claim7 := { stood := { row := ballStandsRow, standIns := [], harness := (true, "39d232f38a632c8ff6abb7fef5cbe1177c004876ab121b365f493005d6225c0c"), looks := false }, kinds := [], alts := [], laidByText := true, laidKinds := [.data], laidTests := true, laidLooks := .later }
def BallStandsCardSaid : Prop := Claim7.holds Tryz.pinned (.plain (OpenSpec.ofChange ballStandsSpec)) ballStandsCard

/-- THE TIED CARD OF 'hairlinelaw05.BallSums'. -/
def ballSumsCard : Claim7 := { stood := { row := ballSumsRow, standIns := [], harness := (true, "39d232f38a632c8ff6abb7fef5cbe1177c004876ab121b365f493005d6225c0c"), looks := false }, kinds := [], alts := [], laidByText := true, laidKinds := [.data], laidTests := true, laidLooks := .later }
def BallSumsCardSaid : Prop := Claim7.holds Tryz.pinned (.plain (OpenSpec.ofChange ballSumsSpec)) ballSumsCard

/-- THE TIED CARD OF 'hairlinelaw05.BallTimes'. -/
def ballTimesCard : Claim7 := { stood := { row := ballTimesRow, standIns := [], harness := (true, "39d232f38a632c8ff6abb7fef5cbe1177c004876ab121b365f493005d6225c0c"), looks := false }, kinds := [], alts := [], laidByText := true, laidKinds := [.data], laidTests := true, laidLooks := .later }
def BallTimesCardSaid : Prop := Claim7.holds Tryz.pinned (.plain (OpenSpec.ofChange ballTimesSpec)) ballTimesCard

/-- THE TIED CARD OF 'hairlinelaw05.BallLies'. -/
def ballLiesCard : Claim7 := { stood := { row := ballLiesRow, standIns := [], harness := (true, "39d232f38a632c8ff6abb7fef5cbe1177c004876ab121b365f493005d6225c0c"), looks := false }, kinds := [], alts := [], laidByText := true, laidKinds := [.data], laidTests := true, laidLooks := .later }
def BallLiesCardSaid : Prop := Claim7.holds Tryz.pinned (.plain (OpenSpec.ofChange ballLiesSpec)) ballLiesCard

/-- THE SECOND FORM's CARD OF 'hairlinelaw05.BallStands'. -/
def ballStandsUptoCard : Claim7 := { stood := { row := ballStandsUptoRow, standIns := [], harness := (true, "39d232f38a632c8ff6abb7fef5cbe1177c004876ab121b365f493005d6225c0c"), looks := false }, kinds := [], alts := [], laidByText := true, laidKinds := [.data], laidTests := true, laidLooks := .later }
def BallStandsUptoCardSaid : Prop := Claim7.holds Tryz.pinned (.plain (OpenSpec.upto ballStandsSpec)) ballStandsUptoCard

/-- THE SECOND FORM's CARD OF 'hairlinelaw05.BallSums'. -/
def ballSumsUptoCard : Claim7 := { stood := { row := ballSumsUptoRow, standIns := [], harness := (true, "39d232f38a632c8ff6abb7fef5cbe1177c004876ab121b365f493005d6225c0c"), looks := false }, kinds := [], alts := [], laidByText := true, laidKinds := [.data], laidTests := true, laidLooks := .later }
def BallSumsUptoCardSaid : Prop := Claim7.holds Tryz.pinned (.plain (OpenSpec.upto ballSumsSpec)) ballSumsUptoCard

/-- THE SECOND FORM's CARD OF 'hairlinelaw05.BallTimes'. -/
def ballTimesUptoCard : Claim7 := { stood := { row := ballTimesUptoRow, standIns := [], harness := (true, "39d232f38a632c8ff6abb7fef5cbe1177c004876ab121b365f493005d6225c0c"), looks := false }, kinds := [], alts := [], laidByText := true, laidKinds := [.data], laidTests := true, laidLooks := .later }
def BallTimesUptoCardSaid : Prop := Claim7.holds Tryz.pinned (.plain (OpenSpec.upto ballTimesSpec)) ballTimesUptoCard

/-- THE SECOND FORM's CARD OF 'hairlinelaw05.BallLies'. -/
def ballLiesUptoCard : Claim7 := { stood := { row := ballLiesUptoRow, standIns := [], harness := (true, "39d232f38a632c8ff6abb7fef5cbe1177c004876ab121b365f493005d6225c0c"), looks := false }, kinds := [], alts := [], laidByText := true, laidKinds := [.data], laidTests := true, laidLooks := .later }
def BallLiesUptoCardSaid : Prop := Claim7.holds Tryz.pinned (.plain (OpenSpec.upto ballLiesSpec)) ballLiesUptoCard
end Rows
end Go.Proofs.YtiigacddjihokaaGreatDoor
