/-
  DERIVED. GIVEN WITH THE SEED: THE CARDS: each row of YthbodamihiddhaaDoorRows.lean that lists a variable, with what it lists TIED to the program's text (the seventh form; the later family's looks); each row that meets fmt, with fmt's text TOLD by the authors' own Lean function (tested against real Go, not proved from fmt's source: count such statements apart). THE CARD IS WHAT COUNTS. Prove the row's statement (the work); the ties are given (YthbodamihiddhaaDoorTie.lean); close each card by the builder's one call (the guide's Derived/Test/ToyasCard.lean, 'card_holds'). Laid BY PROGRAM, IN A SANDBOX (cutbox-door.mjs). By AI agents, Wed Nov 11 2026. No macro, syntax, notation, axiom, sorry.
-/
import Derived.Test.YthbodamihiddhaaDoorRows
import GoSem.ClaimSeven
namespace Go.Proofs.YthbodamihiddhaaDoor
namespace Rows

/-- THE TIED CARD OF 'hairlinelaw04.BitsValues'. -/
def bitsValuesCard : Claim7 := { stood := { row := bitsValuesRow, standIns := [], harness := (true, "3021bb17ea23851bf92f2c64e1cda5858c25deb1c986c99bf2cd8671afaafc5c"), looks := false }, kinds := [], alts := [], laidByText := true, laidKinds := [.data], laidTests := true, laidLooks := .later }
def BitsValuesCardSaid : Prop := Claim7.holds Tryd.pinned (.plain (OpenSpec.ofChange bitsValuesSpec)) bitsValuesCard

/-- THE TIED CARD OF 'hairlinelaw04.BitsBack'. -/
def bitsBackCard : Claim7 := { stood := { row := bitsBackRow, standIns := [], harness := (true, "3021bb17ea23851bf92f2c64e1cda5858c25deb1c986c99bf2cd8671afaafc5c"), looks := false }, kinds := [], alts := [], laidByText := true, laidKinds := [.data], laidTests := true, laidLooks := .later }
def BitsBackCardSaid : Prop := Claim7.holds Tryd.pinned (.plain (OpenSpec.ofChange bitsBackSpec)) bitsBackCard

/-- THE TIED CARD OF 'hairlinelaw04.BitsOrder'. -/
def bitsOrderCard : Claim7 := { stood := { row := bitsOrderRow, standIns := [], harness := (true, "3021bb17ea23851bf92f2c64e1cda5858c25deb1c986c99bf2cd8671afaafc5c"), looks := false }, kinds := [], alts := [], laidByText := true, laidKinds := [.data], laidTests := true, laidLooks := .later }
def BitsOrderCardSaid : Prop := Claim7.holds Tryd.pinned (.plain (OpenSpec.ofChange bitsOrderSpec)) bitsOrderCard

/-- THE TIED CARD OF 'hairlinelaw04.BitsNear'. -/
def bitsNearCard : Claim7 := { stood := { row := bitsNearRow, standIns := [], harness := (true, "3021bb17ea23851bf92f2c64e1cda5858c25deb1c986c99bf2cd8671afaafc5c"), looks := false }, kinds := [], alts := [], laidByText := true, laidKinds := [.data], laidTests := true, laidLooks := .later }
def BitsNearCardSaid : Prop := Claim7.holds Tryd.pinned (.plain (OpenSpec.ofChange bitsNearSpec)) bitsNearCard

/-- THE TIED CARD OF 'hairlinelaw04.BitsBinades'. -/
def bitsBinadesCard : Claim7 := { stood := { row := bitsBinadesRow, standIns := [], harness := (true, "3021bb17ea23851bf92f2c64e1cda5858c25deb1c986c99bf2cd8671afaafc5c"), looks := false }, kinds := [], alts := [], laidByText := true, laidKinds := [.data], laidTests := true, laidLooks := .later }
def BitsBinadesCardSaid : Prop := Claim7.holds Tryd.pinned (.plain (OpenSpec.ofChange bitsBinadesSpec)) bitsBinadesCard

/-- THE SECOND FORM's CARD OF 'hairlinelaw04.BitsValues'. -/
def bitsValuesUptoCard : Claim7 := { stood := { row := bitsValuesUptoRow, standIns := [], harness := (true, "3021bb17ea23851bf92f2c64e1cda5858c25deb1c986c99bf2cd8671afaafc5c"), looks := false }, kinds := [], alts := [], laidByText := true, laidKinds := [.data], laidTests := true, laidLooks := .later }
def BitsValuesUptoCardSaid : Prop := Claim7.holds Tryd.pinned (.plain (OpenSpec.upto bitsValuesSpec)) bitsValuesUptoCard

/-- THE SECOND FORM's CARD OF 'hairlinelaw04.BitsBack'. -/
def bitsBackUptoCard : Claim7 := { stood := { row := bitsBackUptoRow, standIns := [], harness := (true, "3021bb17ea23851bf92f2c64e1cda5858c25deb1c986c99bf2cd8671afaafc5c"), looks := false }, kinds := [], alts := [], laidByText := true, laidKinds := [.data], laidTests := true, laidLooks := .later }
def BitsBackUptoCardSaid : Prop := Claim7.holds Tryd.pinned (.plain (OpenSpec.upto bitsBackSpec)) bitsBackUptoCard

/-- THE SECOND FORM's CARD OF 'hairlinelaw04.BitsOrder'. -/
def bitsOrderUptoCard : Claim7 := { stood := { row := bitsOrderUptoRow, standIns := [], harness := (true, "3021bb17ea23851bf92f2c64e1cda5858c25deb1c986c99bf2cd8671afaafc5c"), looks := false }, kinds := [], alts := [], laidByText := true, laidKinds := [.data], laidTests := true, laidLooks := .later }
def BitsOrderUptoCardSaid : Prop := Claim7.holds Tryd.pinned (.plain (OpenSpec.upto bitsOrderSpec)) bitsOrderUptoCard

/-- THE SECOND FORM's CARD OF 'hairlinelaw04.BitsNear'. -/
def bitsNearUptoCard : Claim7 := { stood := { row := bitsNearUptoRow, standIns := [], harness := (true, "3021bb17ea23851bf92f2c64e1cda5858c25deb1c986c99bf2cd8671afaafc5c"), looks := false }, kinds := [], alts := [], laidByText := true, laidKinds := [.data], laidTests := true, laidLooks := .later }
def BitsNearUptoCardSaid : Prop := Claim7.holds Tryd.pinned (.plain (OpenSpec.upto bitsNearSpec)) bitsNearUptoCard

/-- THE SECOND FORM's CARD OF 'hairlinelaw04.BitsBinades'. -/
def bitsBinadesUptoCard : Claim7 := { stood := { row := bitsBinadesUptoRow, standIns := [], harness := (true, "3021bb17ea23851bf92f2c64e1cda5858c25deb1c986c99bf2cd8671afaafc5c"), looks := false }, kinds := [], alts := [], laidByText := true, laidKinds := [.data], laidTests := true, laidLooks := .later }
def BitsBinadesUptoCardSaid : Prop := Claim7.holds Tryd.pinned (.plain (OpenSpec.upto bitsBinadesSpec)) bitsBinadesUptoCard
end Rows
end Go.Proofs.YthbodamihiddhaaDoor
