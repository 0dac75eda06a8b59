/-
  DERIVED. GIVEN WITH THE SEED: THE CARDS: each row of YtcoidcbbdibnaaaDoorRows.lean that lists a variable, with what it lists TIED to the program's text (the seventh form; the later family's looks); each row that meets fmt, with fmt's text TOLD by the authors' own Lean function (tested against real Go, not proved from fmt's source: count such statements apart). THE CARD IS WHAT COUNTS. Prove the row's statement (the work); the ties are given (YtcoidcbbdibnaaaDoorTie.lean); close each card by the builder's one call (the guide's Derived/Test/ToyasCard.lean, 'card_holds'). Laid BY PROGRAM, IN A SANDBOX (cutbox-door.mjs). By AI agents, Wed Nov 11 2026. No macro, syntax, notation, axiom, sorry.
-/
import Derived.Test.YtcoidcbbdibnaaaDoorRows
import GoSem.ClaimSeven
namespace Go.Proofs.YtcoidcbbdibnaaaDoor
namespace Rows

/-- THE TIED CARD OF 'hairlinelaw03.DyadStands'. -/
def dyadStandsCard : Claim7 := { stood := { row := dyadStandsRow, standIns := [], harness := (true, "785c6cfebb1c4402e6dac8b8a0f000d6c160c57ee8e09e1552b177c778bf7ab1"), looks := false }, kinds := [], alts := [], laidByText := true, laidKinds := [.data], laidTests := true, laidLooks := .later }
def DyadStandsCardSaid : Prop := Claim7.holds Tryd.pinned (.plain (OpenSpec.ofChange dyadStandsSpec)) dyadStandsCard

/-- THE TIED CARD OF 'hairlinelaw03.DyadSums'. -/
def dyadSumsCard : Claim7 := { stood := { row := dyadSumsRow, standIns := [], harness := (true, "785c6cfebb1c4402e6dac8b8a0f000d6c160c57ee8e09e1552b177c778bf7ab1"), looks := false }, kinds := [], alts := [], laidByText := true, laidKinds := [.data], laidTests := true, laidLooks := .later }
def DyadSumsCardSaid : Prop := Claim7.holds Tryd.pinned (.plain (OpenSpec.ofChange dyadSumsSpec)) dyadSumsCard

/-- THE TIED CARD OF 'hairlinelaw03.DyadNear'. -/
def dyadNearCard : Claim7 := { stood := { row := dyadNearRow, standIns := [], harness := (true, "785c6cfebb1c4402e6dac8b8a0f000d6c160c57ee8e09e1552b177c778bf7ab1"), looks := false }, kinds := [], alts := [], laidByText := true, laidKinds := [.data], laidTests := true, laidLooks := .later }
def DyadNearCardSaid : Prop := Claim7.holds Tryd.pinned (.plain (OpenSpec.ofChange dyadNearSpec)) dyadNearCard

/-- THE TIED CARD OF 'hairlinelaw03.DyadRing'. -/
def dyadRingCard : Claim7 := { stood := { row := dyadRingRow, standIns := [], harness := (true, "785c6cfebb1c4402e6dac8b8a0f000d6c160c57ee8e09e1552b177c778bf7ab1"), looks := false }, kinds := [], alts := [], laidByText := true, laidKinds := [.data], laidTests := true, laidLooks := .later }
def DyadRingCardSaid : Prop := Claim7.holds Tryd.pinned (.plain (OpenSpec.ofChange dyadRingSpec)) dyadRingCard

/-- THE TIED CARD OF 'hairlinelaw03.DyadBetween'. -/
def dyadBetweenCard : Claim7 := { stood := { row := dyadBetweenRow, standIns := [], harness := (true, "785c6cfebb1c4402e6dac8b8a0f000d6c160c57ee8e09e1552b177c778bf7ab1"), looks := false }, kinds := [], alts := [], laidByText := true, laidKinds := [.data], laidTests := true, laidLooks := .later }
def DyadBetweenCardSaid : Prop := Claim7.holds Tryd.pinned (.plain (OpenSpec.ofChange dyadBetweenSpec)) dyadBetweenCard

/-- THE TIED CARD OF 'hairlinelaw03.DyadLogs'. -/
def dyadLogsCard : Claim7 := { stood := { row := dyadLogsRow, standIns := [], harness := (true, "785c6cfebb1c4402e6dac8b8a0f000d6c160c57ee8e09e1552b177c778bf7ab1"), looks := false }, kinds := [], alts := [], laidByText := true, laidKinds := [.data], laidTests := true, laidLooks := .later }
def DyadLogsCardSaid : Prop := Claim7.holds Tryd.pinned (.plain (OpenSpec.ofChange dyadLogsSpec)) dyadLogsCard

/-- THE SECOND FORM's CARD OF 'hairlinelaw03.DyadStands'. -/
def dyadStandsUptoCard : Claim7 := { stood := { row := dyadStandsUptoRow, standIns := [], harness := (true, "785c6cfebb1c4402e6dac8b8a0f000d6c160c57ee8e09e1552b177c778bf7ab1"), looks := false }, kinds := [], alts := [], laidByText := true, laidKinds := [.data], laidTests := true, laidLooks := .later }
def DyadStandsUptoCardSaid : Prop := Claim7.holds Tryd.pinned (.plain (OpenSpec.upto dyadStandsSpec)) dyadStandsUptoCard

/-- THE SECOND FORM's CARD OF 'hairlinelaw03.DyadSums'. -/
def dyadSumsUptoCard : Claim7 := { stood := { row := dyadSumsUptoRow, standIns := [], harness := (true, "785c6cfebb1c4402e6dac8b8a0f000d6c160c57ee8e09e1552b177c778bf7ab1"), looks := false }, kinds := [], alts := [], laidByText := true, laidKinds := [.data], laidTests := true, laidLooks := .later }
def DyadSumsUptoCardSaid : Prop := Claim7.holds Tryd.pinned (.plain (OpenSpec.upto dyadSumsSpec)) dyadSumsUptoCard

/-- THE SECOND FORM's CARD OF 'hairlinelaw03.DyadNear'. -/
def dyadNearUptoCard : Claim7 := { stood := { row := dyadNearUptoRow, standIns := [], harness := (true, "785c6cfebb1c4402e6dac8b8a0f000d6c160c57ee8e09e1552b177c778bf7ab1"), looks := false }, kinds := [], alts := [], laidByText := true, laidKinds := [.data], laidTests := true, laidLooks := .later }
def DyadNearUptoCardSaid : Prop := Claim7.holds Tryd.pinned (.plain (OpenSpec.upto dyadNearSpec)) dyadNearUptoCard

/-- THE SECOND FORM's CARD OF 'hairlinelaw03.DyadRing'. -/
def dyadRingUptoCard : Claim7 := { stood := { row := dyadRingUptoRow, standIns := [], harness := (true, "785c6cfebb1c4402e6dac8b8a0f000d6c160c57ee8e09e1552b177c778bf7ab1"), looks := false }, kinds := [], alts := [], laidByText := true, laidKinds := [.data], laidTests := true, laidLooks := .later }
def DyadRingUptoCardSaid : Prop := Claim7.holds Tryd.pinned (.plain (OpenSpec.upto dyadRingSpec)) dyadRingUptoCard

/-- THE SECOND FORM's CARD OF 'hairlinelaw03.DyadBetween'. -/
def dyadBetweenUptoCard : Claim7 := { stood := { row := dyadBetweenUptoRow, standIns := [], harness := (true, "785c6cfebb1c4402e6dac8b8a0f000d6c160c57ee8e09e1552b177c778bf7ab1"), looks := false }, kinds := [], alts := [], laidByText := true, laidKinds := [.data], laidTests := true, laidLooks := .later }
def DyadBetweenUptoCardSaid : Prop := Claim7.holds Tryd.pinned (.plain (OpenSpec.upto dyadBetweenSpec)) dyadBetweenUptoCard

/-- THE SECOND FORM's CARD OF 'hairlinelaw03.DyadLogs'. -/
def dyadLogsUptoCard : Claim7 := { stood := { row := dyadLogsUptoRow, standIns := [], harness := (true, "785c6cfebb1c4402e6dac8b8a0f000d6c160c57ee8e09e1552b177c778bf7ab1"), looks := false }, kinds := [], alts := [], laidByText := true, laidKinds := [.data], laidTests := true, laidLooks := .later }
def DyadLogsUptoCardSaid : Prop := Claim7.holds Tryd.pinned (.plain (OpenSpec.upto dyadLogsSpec)) dyadLogsUptoCard
end Rows
end Go.Proofs.YtcoidcbbdibnaaaDoor
