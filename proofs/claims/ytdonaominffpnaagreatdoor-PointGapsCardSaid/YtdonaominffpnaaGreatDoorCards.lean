/-
  DERIVED. GIVEN WITH THE SEED: THE CARDS: each row of YtdonaominffpnaaGreatDoorRows.lean that lists a variable, with what it lists TIED to the program's text (the seventh form; the later family's looks); each row that meets fmt, with fmt's text TOLD by the authors' own Lean function (tested against real Go, not proved from fmt's source: count such statements apart). THE CARD IS WHAT COUNTS. Prove the row's statement (the work); the ties are given (YtdonaominffpnaaGreatDoorTie.lean); close each card by the builder's one call (the guide's Derived/Test/ToyasCard.lean, 'card_holds'). Laid BY PROGRAM, IN A SANDBOX (cutbox-door.mjs). By AI agents, Wed Nov 11 2026. No macro, syntax, notation, axiom, sorry.
-/
import Derived.Test.YtdonaominffpnaaGreatDoorRows
import GoSem.ClaimSeven
namespace Go.Proofs.YtdonaominffpnaaGreatDoor
namespace Rows

/-- THE TIED CARD OF 'hairlinelaw09.PointGaps'. -/
def pointGapsCard : Claim7 := { stood := { row := pointGapsRow, standIns := [], harness := (true, "a8905efd790bd1e8102e10af0f22196fa56830eb605710c11581422f698f783c"), looks := false }, kinds := [], alts := [], laidByText := true, laidKinds := [.data], laidTests := true, laidLooks := .later }
def PointGapsCardSaid : Prop := Claim7.holds Tryz.pinned (.plain (OpenSpec.ofChange pointGapsSpec)) pointGapsCard

/-- THE TIED CARD OF 'hairlinelaw09.PointLooks'. -/
def pointLooksCard : Claim7 := { stood := { row := pointLooksRow, standIns := [], harness := (true, "a8905efd790bd1e8102e10af0f22196fa56830eb605710c11581422f698f783c"), looks := false }, kinds := [], alts := [], laidByText := true, laidKinds := [.data], laidTests := true, laidLooks := .later }
def PointLooksCardSaid : Prop := Claim7.holds Tryz.pinned (.plain (OpenSpec.ofChange pointLooksSpec)) pointLooksCard

/-- THE TIED CARD OF 'hairlinelaw09.PointBetween'. -/
def pointBetweenCard : Claim7 := { stood := { row := pointBetweenRow, standIns := [], harness := (true, "a8905efd790bd1e8102e10af0f22196fa56830eb605710c11581422f698f783c"), looks := false }, kinds := [], alts := [], laidByText := true, laidKinds := [.data], laidTests := true, laidLooks := .later }
def PointBetweenCardSaid : Prop := Claim7.holds Tryz.pinned (.plain (OpenSpec.ofChange pointBetweenSpec)) pointBetweenCard

/-- THE TIED CARD OF 'hairlinelaw09.PointFiner'. -/
def pointFinerCard : Claim7 := { stood := { row := pointFinerRow, standIns := [], harness := (true, "a8905efd790bd1e8102e10af0f22196fa56830eb605710c11581422f698f783c"), looks := false }, kinds := [], alts := [], laidByText := true, laidKinds := [.data], laidTests := true, laidLooks := .later }
def PointFinerCardSaid : Prop := Claim7.holds Tryz.pinned (.plain (OpenSpec.ofChange pointFinerSpec)) pointFinerCard

/-- THE TIED CARD OF 'hairlinelaw09.PointExact'. -/
def pointExactCard : Claim7 := { stood := { row := pointExactRow, standIns := [], harness := (true, "a8905efd790bd1e8102e10af0f22196fa56830eb605710c11581422f698f783c"), looks := false }, kinds := [], alts := [], laidByText := true, laidKinds := [.data], laidTests := true, laidLooks := .later }
def PointExactCardSaid : Prop := Claim7.holds Tryz.pinned (.plain (OpenSpec.ofChange pointExactSpec)) pointExactCard

/-- THE SECOND FORM's CARD OF 'hairlinelaw09.PointGaps'. -/
def pointGapsUptoCard : Claim7 := { stood := { row := pointGapsUptoRow, standIns := [], harness := (true, "a8905efd790bd1e8102e10af0f22196fa56830eb605710c11581422f698f783c"), looks := false }, kinds := [], alts := [], laidByText := true, laidKinds := [.data], laidTests := true, laidLooks := .later }
def PointGapsUptoCardSaid : Prop := Claim7.holds Tryz.pinned (.plain (OpenSpec.upto pointGapsSpec)) pointGapsUptoCard

/-- THE SECOND FORM's CARD OF 'hairlinelaw09.PointLooks'. -/
def pointLooksUptoCard : Claim7 := { stood := { row := pointLooksUptoRow, standIns := [], harness := (true, "a8905efd790bd1e8102e10af0f22196fa56830eb605710c11581422f698f783c"), looks := false }, kinds := [], alts := [], laidByText := true, laidKinds := [.data], laidTests := true, laidLooks := .later }
def PointLooksUptoCardSaid : Prop := Claim7.holds Tryz.pinned (.plain (OpenSpec.upto pointLooksSpec)) pointLooksUptoCard

/-- THE SECOND FORM's CARD OF 'hairlinelaw09.PointBetween'. -/
def pointBetweenUptoCard : Claim7 := { stood := { row := pointBetweenUptoRow, standIns := [], harness := (true, "a8905efd790bd1e8102e10af0f22196fa56830eb605710c11581422f698f783c"), looks := false }, kinds := [], alts := [], laidByText := true, laidKinds := [.data], laidTests := true, laidLooks := .later }
def PointBetweenUptoCardSaid : Prop := Claim7.holds Tryz.pinned (.plain (OpenSpec.upto pointBetweenSpec)) pointBetweenUptoCard

/-- THE SECOND FORM's CARD OF 'hairlinelaw09.PointFiner'. -/
def pointFinerUptoCard : Claim7 := { stood := { row := pointFinerUptoRow, standIns := [], harness := (true, "a8905efd790bd1e8102e10af0f22196fa56830eb605710c11581422f698f783c"), looks := false }, kinds := [], alts := [], laidByText := true, laidKinds := [.data], laidTests := true, laidLooks := .later }
def PointFinerUptoCardSaid : Prop := Claim7.holds Tryz.pinned (.plain (OpenSpec.upto pointFinerSpec)) pointFinerUptoCard

/-- THE SECOND FORM's CARD OF 'hairlinelaw09.PointExact'. -/
def pointExactUptoCard : Claim7 := { stood := { row := pointExactUptoRow, standIns := [], harness := (true, "a8905efd790bd1e8102e10af0f22196fa56830eb605710c11581422f698f783c"), looks := false }, kinds := [], alts := [], laidByText := true, laidKinds := [.data], laidTests := true, laidLooks := .later }
def PointExactUptoCardSaid : Prop := Claim7.holds Tryz.pinned (.plain (OpenSpec.upto pointExactSpec)) pointExactUptoCard
end Rows
end Go.Proofs.YtdonaominffpnaaGreatDoor
