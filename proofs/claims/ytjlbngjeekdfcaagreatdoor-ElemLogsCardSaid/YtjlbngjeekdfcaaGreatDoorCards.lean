/-
  DERIVED. GIVEN WITH THE SEED: THE CARDS: each row of YtjlbngjeekdfcaaGreatDoorRows.lean that lists a variable, with what it lists TIED to the program's text (the seventh form; the later family's looks); each row that meets fmt, with fmt's text TOLD by the authors' own Lean function (tested against real Go, not proved from fmt's source: count such statements apart). THE CARD IS WHAT COUNTS. Prove the row's statement (the work); the ties are given (YtjlbngjeekdfcaaGreatDoorTie.lean); close each card by the builder's one call (the guide's Derived/Test/ToyasCard.lean, 'card_holds'). Laid BY PROGRAM, IN A SANDBOX (cutbox-door.mjs). By AI agents, Wed Nov 11 2026. No macro, syntax, notation, axiom, sorry.
-/
import Derived.Test.YtjlbngjeekdfcaaGreatDoorRows
import GoSem.ClaimSeven
namespace Go.Proofs.YtjlbngjeekdfcaaGreatDoor
namespace Rows

/-- THE TIED CARD OF 'hairlinelaw08.ElemMeets'. -/
def elemMeetsCard : Claim7 := { stood := { row := elemMeetsRow, standIns := [], harness := (true, "f90b461cb8d8fe66cd3b464c382fe2aefb21e52c81ddd6681c85ea4d734a56ae"), looks := false }, kinds := [], alts := [], laidByText := true, laidKinds := [.data], laidTests := true, laidLooks := .later }
def ElemMeetsCardSaid : Prop := Claim7.holds Tryz.pinned (.plain (OpenSpec.ofChange elemMeetsSpec)) elemMeetsCard

/-- THE TIED CARD OF 'hairlinelaw08.ElemAdds'. -/
def elemAddsCard : Claim7 := { stood := { row := elemAddsRow, standIns := [], harness := (true, "f90b461cb8d8fe66cd3b464c382fe2aefb21e52c81ddd6681c85ea4d734a56ae"), looks := false }, kinds := [], alts := [], laidByText := true, laidKinds := [.data], laidTests := true, laidLooks := .later }
def ElemAddsCardSaid : Prop := Claim7.holds Tryz.pinned (.plain (OpenSpec.ofChange elemAddsSpec)) elemAddsCard

/-- THE TIED CARD OF 'hairlinelaw08.ElemLogs'. -/
def elemLogsCard : Claim7 := { stood := { row := elemLogsRow, standIns := [], harness := (true, "f90b461cb8d8fe66cd3b464c382fe2aefb21e52c81ddd6681c85ea4d734a56ae"), looks := false }, kinds := [], alts := [], laidByText := true, laidKinds := [.data], laidTests := true, laidLooks := .later }
def ElemLogsCardSaid : Prop := Claim7.holds Tryz.pinned (.plain (OpenSpec.ofChange elemLogsSpec)) elemLogsCard

/-- THE TIED CARD OF 'hairlinelaw08.ElemCircle'. -/
def elemCircleCard : Claim7 := { stood := { row := elemCircleRow, standIns := [], harness := (true, "f90b461cb8d8fe66cd3b464c382fe2aefb21e52c81ddd6681c85ea4d734a56ae"), looks := false }, kinds := [], alts := [], laidByText := true, laidKinds := [.data], laidTests := true, laidLooks := .later }
def ElemCircleCardSaid : Prop := Claim7.holds Tryz.pinned (.plain (OpenSpec.ofChange elemCircleSpec)) elemCircleCard

/-- THE TIED CARD OF 'hairlinelaw08.ElemBack'. -/
def elemBackCard : Claim7 := { stood := { row := elemBackRow, standIns := [], harness := (true, "f90b461cb8d8fe66cd3b464c382fe2aefb21e52c81ddd6681c85ea4d734a56ae"), looks := false }, kinds := [], alts := [], laidByText := true, laidKinds := [.data], laidTests := true, laidLooks := .later }
def ElemBackCardSaid : Prop := Claim7.holds Tryz.pinned (.plain (OpenSpec.ofChange elemBackSpec)) elemBackCard

/-- THE SECOND FORM's CARD OF 'hairlinelaw08.ElemMeets'. -/
def elemMeetsUptoCard : Claim7 := { stood := { row := elemMeetsUptoRow, standIns := [], harness := (true, "f90b461cb8d8fe66cd3b464c382fe2aefb21e52c81ddd6681c85ea4d734a56ae"), looks := false }, kinds := [], alts := [], laidByText := true, laidKinds := [.data], laidTests := true, laidLooks := .later }
def ElemMeetsUptoCardSaid : Prop := Claim7.holds Tryz.pinned (.plain (OpenSpec.upto elemMeetsSpec)) elemMeetsUptoCard

/-- THE SECOND FORM's CARD OF 'hairlinelaw08.ElemAdds'. -/
def elemAddsUptoCard : Claim7 := { stood := { row := elemAddsUptoRow, standIns := [], harness := (true, "f90b461cb8d8fe66cd3b464c382fe2aefb21e52c81ddd6681c85ea4d734a56ae"), looks := false }, kinds := [], alts := [], laidByText := true, laidKinds := [.data], laidTests := true, laidLooks := .later }
def ElemAddsUptoCardSaid : Prop := Claim7.holds Tryz.pinned (.plain (OpenSpec.upto elemAddsSpec)) elemAddsUptoCard

/-- THE SECOND FORM's CARD OF 'hairlinelaw08.ElemLogs'. -/
def elemLogsUptoCard : Claim7 := { stood := { row := elemLogsUptoRow, standIns := [], harness := (true, "f90b461cb8d8fe66cd3b464c382fe2aefb21e52c81ddd6681c85ea4d734a56ae"), looks := false }, kinds := [], alts := [], laidByText := true, laidKinds := [.data], laidTests := true, laidLooks := .later }
def ElemLogsUptoCardSaid : Prop := Claim7.holds Tryz.pinned (.plain (OpenSpec.upto elemLogsSpec)) elemLogsUptoCard

/-- THE SECOND FORM's CARD OF 'hairlinelaw08.ElemCircle'. -/
def elemCircleUptoCard : Claim7 := { stood := { row := elemCircleUptoRow, standIns := [], harness := (true, "f90b461cb8d8fe66cd3b464c382fe2aefb21e52c81ddd6681c85ea4d734a56ae"), looks := false }, kinds := [], alts := [], laidByText := true, laidKinds := [.data], laidTests := true, laidLooks := .later }
def ElemCircleUptoCardSaid : Prop := Claim7.holds Tryz.pinned (.plain (OpenSpec.upto elemCircleSpec)) elemCircleUptoCard

/-- THE SECOND FORM's CARD OF 'hairlinelaw08.ElemBack'. -/
def elemBackUptoCard : Claim7 := { stood := { row := elemBackUptoRow, standIns := [], harness := (true, "f90b461cb8d8fe66cd3b464c382fe2aefb21e52c81ddd6681c85ea4d734a56ae"), looks := false }, kinds := [], alts := [], laidByText := true, laidKinds := [.data], laidTests := true, laidLooks := .later }
def ElemBackUptoCardSaid : Prop := Claim7.holds Tryz.pinned (.plain (OpenSpec.upto elemBackSpec)) elemBackUptoCard
end Rows
end Go.Proofs.YtjlbngjeekdfcaaGreatDoor
