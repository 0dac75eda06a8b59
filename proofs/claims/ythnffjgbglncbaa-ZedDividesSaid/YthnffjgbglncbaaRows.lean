/-
  No cell of these rows narrows 'for every input' (looked for: loops, veiled, ifaces, maps, wideKeys, modest, calm, conditions, laid).
  DERIVED. THE GIVEN ROWS OF THIS SEAT. 10 by the template 'for every input the law returns true; each argument reads behind the call as it read before'; 0 by the template 'total and deterministic' (their statements: YthnffjgbglncbaaTotals.lean).
  GIVEN WITH THE SEED: the statements are not yours to turn. If you find one false, say at which input.
  Laid BY PROGRAM, IN A SANDBOX (cutbox-rows.mjs): the forced cells as the released guide's own fill.sh prints them over the translation 9f1e8f6244fbac49… (all of the seat's roots in one cut). By AI agents, Wed Nov 11 2026. No macro, syntax, notation, axiom, sorry.
-/
import Derived.Test.YthnffjgbglncbaaChecked
import GoSem.Claim
import GoSem.ClaimJoined
import GoSem.ClaimMapViews
import Derived.JoinedTies
import Derived.KernelRfl
namespace Go.Proofs.Ythnffjgbglncbaa
/- THE CELL 'sum', in the pinned program and in every row, IS THE sha256 OF THE DUMP (.gsa) THAT YthnffjgbglncbaaProg.lean LOADS. Nothing in Lean hashes anything: it is a label: what it is worth is what the hold of that sum in a sandbox is worth. -/
noncomputable def Try.pinned : Pinned := { name := "ythnffjgbglncbaa", sum := "9f1e8f6244fbac49f1713624c3880e7317b6e6a096a2752e207f096a57a27316", checked := Try.checked }
namespace Rows
def none {H : Type} : Left H := { results := [], args := [] }

/-- 'hairlinelaw02.ZedStands': WHATEVER THE INPUT: true; the input reads as it did. -/
def zedStandsSpec : ChangeSpec := { name := "zedStands", fn := fun _ => fun
  | [d1, d2] => { results := [.lit (.bool true)], args := [d1, d2] }
  | _ => none }
def zedStandsRow : OpenClaim := { program := "ythnffjgbglncbaa", sum := "9f1e8f6244fbac49f1713624c3880e7317b6e6a096a2752e207f096a57a27316", func := "hairline/hairlinelaw02.ZedStands", spec := "zedStands", recurses := true, apart := false }
def ZedStandsSaid : Prop := zedStandsRow.holds Try.pinned (OpenSpec.ofChange zedStandsSpec)

/-- ITS FALSE NEIGHBOUR: 'it returns false'. Refute it at one input. -/
def zedStandsWrong : ChangeSpec := { name := "zedStands", fn := fun _ => fun
  | [d1, d2] => { results := [.lit (.bool false)], args := [d1, d2] }
  | _ => none }
def ZedStandsWrongFalsely : Prop := zedStandsRow.holds Try.pinned (OpenSpec.ofChange zedStandsWrong)

/-- 'hairlinelaw02.ZedSmalls': WHATEVER THE INPUT: true; the input reads as it did. -/
def zedSmallsSpec : ChangeSpec := { name := "zedSmalls", fn := fun _ => fun
  | [d] => { results := [.lit (.bool true)], args := [d] }
  | _ => none }
def zedSmallsRow : OpenClaim := { program := "ythnffjgbglncbaa", sum := "9f1e8f6244fbac49f1713624c3880e7317b6e6a096a2752e207f096a57a27316", func := "hairline/hairlinelaw02.ZedSmalls", spec := "zedSmalls", recurses := true, apart := false }
def ZedSmallsSaid : Prop := zedSmallsRow.holds Try.pinned (OpenSpec.ofChange zedSmallsSpec)

/-- ITS FALSE NEIGHBOUR: 'it returns false'. Refute it at one input. -/
def zedSmallsWrong : ChangeSpec := { name := "zedSmalls", fn := fun _ => fun
  | [d] => { results := [.lit (.bool false)], args := [d] }
  | _ => none }
def ZedSmallsWrongFalsely : Prop := zedSmallsRow.holds Try.pinned (OpenSpec.ofChange zedSmallsWrong)

/-- 'hairlinelaw02.ZedSums': WHATEVER THE INPUT: true; the input reads as it did. -/
def zedSumsSpec : ChangeSpec := { name := "zedSums", fn := fun _ => fun
  | [d1, d2] => { results := [.lit (.bool true)], args := [d1, d2] }
  | _ => none }
def zedSumsRow : OpenClaim := { program := "ythnffjgbglncbaa", sum := "9f1e8f6244fbac49f1713624c3880e7317b6e6a096a2752e207f096a57a27316", func := "hairline/hairlinelaw02.ZedSums", spec := "zedSums", recurses := true, apart := false }
def ZedSumsSaid : Prop := zedSumsRow.holds Try.pinned (OpenSpec.ofChange zedSumsSpec)

/-- ITS FALSE NEIGHBOUR: 'it returns false'. Refute it at one input. -/
def zedSumsWrong : ChangeSpec := { name := "zedSums", fn := fun _ => fun
  | [d1, d2] => { results := [.lit (.bool false)], args := [d1, d2] }
  | _ => none }
def ZedSumsWrongFalsely : Prop := zedSumsRow.holds Try.pinned (OpenSpec.ofChange zedSumsWrong)

/-- 'hairlinelaw02.ZedDivides': WHATEVER THE INPUT: true; the input reads as it did. -/
def zedDividesSpec : ChangeSpec := { name := "zedDivides", fn := fun _ => fun
  | [d1, d2] => { results := [.lit (.bool true)], args := [d1, d2] }
  | _ => none }
def zedDividesRow : OpenClaim := { program := "ythnffjgbglncbaa", sum := "9f1e8f6244fbac49f1713624c3880e7317b6e6a096a2752e207f096a57a27316", func := "hairline/hairlinelaw02.ZedDivides", spec := "zedDivides", recurses := true, apart := false }
def ZedDividesSaid : Prop := zedDividesRow.holds Try.pinned (OpenSpec.ofChange zedDividesSpec)

/-- ITS FALSE NEIGHBOUR: 'it returns false'. Refute it at one input. -/
def zedDividesWrong : ChangeSpec := { name := "zedDivides", fn := fun _ => fun
  | [d1, d2] => { results := [.lit (.bool false)], args := [d1, d2] }
  | _ => none }
def ZedDividesWrongFalsely : Prop := zedDividesRow.holds Try.pinned (OpenSpec.ofChange zedDividesWrong)

/-- 'hairlinelaw02.ZedShifts': WHATEVER THE INPUT: true; the input reads as it did. -/
def zedShiftsSpec : ChangeSpec := { name := "zedShifts", fn := fun _ => fun
  | [d1, d2] => { results := [.lit (.bool true)], args := [d1, d2] }
  | _ => none }
def zedShiftsRow : OpenClaim := { program := "ythnffjgbglncbaa", sum := "9f1e8f6244fbac49f1713624c3880e7317b6e6a096a2752e207f096a57a27316", func := "hairline/hairlinelaw02.ZedShifts", spec := "zedShifts", recurses := true, apart := false }
def ZedShiftsSaid : Prop := zedShiftsRow.holds Try.pinned (OpenSpec.ofChange zedShiftsSpec)

/-- ITS FALSE NEIGHBOUR: 'it returns false'. Refute it at one input. -/
def zedShiftsWrong : ChangeSpec := { name := "zedShifts", fn := fun _ => fun
  | [d1, d2] => { results := [.lit (.bool false)], args := [d1, d2] }
  | _ => none }
def ZedShiftsWrongFalsely : Prop := zedShiftsRow.holds Try.pinned (OpenSpec.ofChange zedShiftsWrong)

/-- 'hairlinelaw02.ZedTexts': WHATEVER THE INPUT: true; the input reads as it did. -/
def zedTextsSpec : ChangeSpec := { name := "zedTexts", fn := fun _ => fun
  | [d1, d2] => { results := [.lit (.bool true)], args := [d1, d2] }
  | _ => none }
def zedTextsRow : OpenClaim := { program := "ythnffjgbglncbaa", sum := "9f1e8f6244fbac49f1713624c3880e7317b6e6a096a2752e207f096a57a27316", func := "hairline/hairlinelaw02.ZedTexts", spec := "zedTexts", recurses := true, apart := false }
def ZedTextsSaid : Prop := zedTextsRow.holds Try.pinned (OpenSpec.ofChange zedTextsSpec)

/-- ITS FALSE NEIGHBOUR: 'it returns false'. Refute it at one input. -/
def zedTextsWrong : ChangeSpec := { name := "zedTexts", fn := fun _ => fun
  | [d1, d2] => { results := [.lit (.bool false)], args := [d1, d2] }
  | _ => none }
def ZedTextsWrongFalsely : Prop := zedTextsRow.holds Try.pinned (OpenSpec.ofChange zedTextsWrong)

/-- 'hairlinelaw02.ZedBack': WHATEVER THE INPUT: true; the input reads as it did. -/
def zedBackSpec : ChangeSpec := { name := "zedBack", fn := fun _ => fun
  | [d1, d2] => { results := [.lit (.bool true)], args := [d1, d2] }
  | _ => none }
def zedBackRow : OpenClaim := { program := "ythnffjgbglncbaa", sum := "9f1e8f6244fbac49f1713624c3880e7317b6e6a096a2752e207f096a57a27316", func := "hairline/hairlinelaw02.ZedBack", spec := "zedBack", recurses := true, apart := false }
def ZedBackSaid : Prop := zedBackRow.holds Try.pinned (OpenSpec.ofChange zedBackSpec)

/-- ITS FALSE NEIGHBOUR: 'it returns false'. Refute it at one input. -/
def zedBackWrong : ChangeSpec := { name := "zedBack", fn := fun _ => fun
  | [d1, d2] => { results := [.lit (.bool false)], args := [d1, d2] }
  | _ => none }
def ZedBackWrongFalsely : Prop := zedBackRow.holds Try.pinned (OpenSpec.ofChange zedBackWrong)

/-- 'hairlinelaw02.ZedRing': WHATEVER THE INPUT: true; the input reads as it did. -/
def zedRingSpec : ChangeSpec := { name := "zedRing", fn := fun _ => fun
  | [d1, d2, d3] => { results := [.lit (.bool true)], args := [d1, d2, d3] }
  | _ => none }
def zedRingRow : OpenClaim := { program := "ythnffjgbglncbaa", sum := "9f1e8f6244fbac49f1713624c3880e7317b6e6a096a2752e207f096a57a27316", func := "hairline/hairlinelaw02.ZedRing", spec := "zedRing", recurses := true, apart := false }
def ZedRingSaid : Prop := zedRingRow.holds Try.pinned (OpenSpec.ofChange zedRingSpec)

/-- ITS FALSE NEIGHBOUR: 'it returns false'. Refute it at one input. -/
def zedRingWrong : ChangeSpec := { name := "zedRing", fn := fun _ => fun
  | [d1, d2, d3] => { results := [.lit (.bool false)], args := [d1, d2, d3] }
  | _ => none }
def ZedRingWrongFalsely : Prop := zedRingRow.holds Try.pinned (OpenSpec.ofChange zedRingWrong)

/-- 'hairlinelaw02.ZedRests': WHATEVER THE INPUT: true; the input reads as it did. -/
def zedRestsSpec : ChangeSpec := { name := "zedRests", fn := fun _ => fun
  | [d1, d2] => { results := [.lit (.bool true)], args := [d1, d2] }
  | _ => none }
def zedRestsRow : OpenClaim := { program := "ythnffjgbglncbaa", sum := "9f1e8f6244fbac49f1713624c3880e7317b6e6a096a2752e207f096a57a27316", func := "hairline/hairlinelaw02.ZedRests", spec := "zedRests", recurses := true, apart := false }
def ZedRestsSaid : Prop := zedRestsRow.holds Try.pinned (OpenSpec.ofChange zedRestsSpec)

/-- ITS FALSE NEIGHBOUR: 'it returns false'. Refute it at one input. -/
def zedRestsWrong : ChangeSpec := { name := "zedRests", fn := fun _ => fun
  | [d1, d2] => { results := [.lit (.bool false)], args := [d1, d2] }
  | _ => none }
def ZedRestsWrongFalsely : Prop := zedRestsRow.holds Try.pinned (OpenSpec.ofChange zedRestsWrong)

/-- 'hairlinelaw02.ZedHalves': WHATEVER THE INPUT: true; the input reads as it did. -/
def zedHalvesSpec : ChangeSpec := { name := "zedHalves", fn := fun _ => fun
  | [d1, d2] => { results := [.lit (.bool true)], args := [d1, d2] }
  | _ => none }
def zedHalvesRow : OpenClaim := { program := "ythnffjgbglncbaa", sum := "9f1e8f6244fbac49f1713624c3880e7317b6e6a096a2752e207f096a57a27316", func := "hairline/hairlinelaw02.ZedHalves", spec := "zedHalves", recurses := true, apart := false }
def ZedHalvesSaid : Prop := zedHalvesRow.holds Try.pinned (OpenSpec.ofChange zedHalvesSpec)

/-- ITS FALSE NEIGHBOUR: 'it returns false'. Refute it at one input. -/
def zedHalvesWrong : ChangeSpec := { name := "zedHalves", fn := fun _ => fun
  | [d1, d2] => { results := [.lit (.bool false)], args := [d1, d2] }
  | _ => none }
def ZedHalvesWrongFalsely : Prop := zedHalvesRow.holds Try.pinned (OpenSpec.ofChange zedHalvesWrong)

/- THE SECOND FORM. 'bulk': how many values and letters a reading holds, each counted each time it is reached (what is shared counts as often as it is met; a slice's spare places count too). A statement '..UptoSaid' is the law's where the arguments, and the package variables that the reading takes, are together of bulk at most 1048576: NARROWER than '..Said'. Prove '..Said' where nothing that the law and all that it calls make is longer than what came in: it says more and counts as full. Else prove '..UptoSaid'. A law counts once. -/
mutual
def uptoBulk {H : Type} : DataW H → Nat
  | .lit (.string bytes) => bytes.length + 1
  | .lit _ => 1
  | .nil => 1
  | .ptr d => uptoBulk d + 1
  | .slice elems spare => uptoBulkAll elems + uptoBulkAll spare + 1
  | .agg parts => uptoBulkAll parts + 1
  | .iface _ d => uptoBulk d + 1
  | .map entries => uptoBulkEntries entries + 1
  | .held _ => 1
def uptoBulkAll {H : Type} : List (DataW H) → Nat
  | [] => 0
  | d :: r => uptoBulk d + uptoBulkAll r
def uptoBulkEntries {H : Type} : List (Lit × DataW H) → Nat
  | [] => 0
  | x :: r => uptoBulkEntry x + uptoBulkEntries r
def uptoBulkEntry {H : Type} : Lit × DataW H → Nat
  | (.string bytes, d) => bytes.length + uptoBulk d + 1
  | (_, d) => uptoBulk d + 1
 end
def uptoSmall : (H : Type) → List (DataW H) → Bool := fun _ ds => decide (uptoBulkAll ds ≤ 1048576)
def OpenSpec.upto (s : _root_.Go.ChangeSpec) : _root_.Go.OpenSpec := { _root_.Go.OpenSpec.ofChange s with cond := some uptoSmall }

/-- 'hairlinelaw02.ZedStands', WHERE WHAT IT READS IS OF BULK AT MOST 1048576: true; the input reads as it did. -/
def zedStandsUptoRow : OpenClaim := { program := "ythnffjgbglncbaa", sum := "9f1e8f6244fbac49f1713624c3880e7317b6e6a096a2752e207f096a57a27316", func := "hairline/hairlinelaw02.ZedStands", spec := "zedStands", recurses := true, apart := false, narrowed := true }
def ZedStandsUptoSaid : Prop := zedStandsUptoRow.holds Try.pinned (OpenSpec.upto zedStandsSpec)

/-- 'hairlinelaw02.ZedSmalls', WHERE WHAT IT READS IS OF BULK AT MOST 1048576: true; the input reads as it did. -/
def zedSmallsUptoRow : OpenClaim := { program := "ythnffjgbglncbaa", sum := "9f1e8f6244fbac49f1713624c3880e7317b6e6a096a2752e207f096a57a27316", func := "hairline/hairlinelaw02.ZedSmalls", spec := "zedSmalls", recurses := true, apart := false, narrowed := true }
def ZedSmallsUptoSaid : Prop := zedSmallsUptoRow.holds Try.pinned (OpenSpec.upto zedSmallsSpec)

/-- 'hairlinelaw02.ZedSums', WHERE WHAT IT READS IS OF BULK AT MOST 1048576: true; the input reads as it did. -/
def zedSumsUptoRow : OpenClaim := { program := "ythnffjgbglncbaa", sum := "9f1e8f6244fbac49f1713624c3880e7317b6e6a096a2752e207f096a57a27316", func := "hairline/hairlinelaw02.ZedSums", spec := "zedSums", recurses := true, apart := false, narrowed := true }
def ZedSumsUptoSaid : Prop := zedSumsUptoRow.holds Try.pinned (OpenSpec.upto zedSumsSpec)

/-- 'hairlinelaw02.ZedDivides', WHERE WHAT IT READS IS OF BULK AT MOST 1048576: true; the input reads as it did. -/
def zedDividesUptoRow : OpenClaim := { program := "ythnffjgbglncbaa", sum := "9f1e8f6244fbac49f1713624c3880e7317b6e6a096a2752e207f096a57a27316", func := "hairline/hairlinelaw02.ZedDivides", spec := "zedDivides", recurses := true, apart := false, narrowed := true }
def ZedDividesUptoSaid : Prop := zedDividesUptoRow.holds Try.pinned (OpenSpec.upto zedDividesSpec)

/-- 'hairlinelaw02.ZedShifts', WHERE WHAT IT READS IS OF BULK AT MOST 1048576: true; the input reads as it did. -/
def zedShiftsUptoRow : OpenClaim := { program := "ythnffjgbglncbaa", sum := "9f1e8f6244fbac49f1713624c3880e7317b6e6a096a2752e207f096a57a27316", func := "hairline/hairlinelaw02.ZedShifts", spec := "zedShifts", recurses := true, apart := false, narrowed := true }
def ZedShiftsUptoSaid : Prop := zedShiftsUptoRow.holds Try.pinned (OpenSpec.upto zedShiftsSpec)

/-- 'hairlinelaw02.ZedTexts', WHERE WHAT IT READS IS OF BULK AT MOST 1048576: true; the input reads as it did. -/
def zedTextsUptoRow : OpenClaim := { program := "ythnffjgbglncbaa", sum := "9f1e8f6244fbac49f1713624c3880e7317b6e6a096a2752e207f096a57a27316", func := "hairline/hairlinelaw02.ZedTexts", spec := "zedTexts", recurses := true, apart := false, narrowed := true }
def ZedTextsUptoSaid : Prop := zedTextsUptoRow.holds Try.pinned (OpenSpec.upto zedTextsSpec)

/-- 'hairlinelaw02.ZedBack', WHERE WHAT IT READS IS OF BULK AT MOST 1048576: true; the input reads as it did. -/
def zedBackUptoRow : OpenClaim := { program := "ythnffjgbglncbaa", sum := "9f1e8f6244fbac49f1713624c3880e7317b6e6a096a2752e207f096a57a27316", func := "hairline/hairlinelaw02.ZedBack", spec := "zedBack", recurses := true, apart := false, narrowed := true }
def ZedBackUptoSaid : Prop := zedBackUptoRow.holds Try.pinned (OpenSpec.upto zedBackSpec)

/-- 'hairlinelaw02.ZedRing', WHERE WHAT IT READS IS OF BULK AT MOST 1048576: true; the input reads as it did. -/
def zedRingUptoRow : OpenClaim := { program := "ythnffjgbglncbaa", sum := "9f1e8f6244fbac49f1713624c3880e7317b6e6a096a2752e207f096a57a27316", func := "hairline/hairlinelaw02.ZedRing", spec := "zedRing", recurses := true, apart := false, narrowed := true }
def ZedRingUptoSaid : Prop := zedRingUptoRow.holds Try.pinned (OpenSpec.upto zedRingSpec)

/-- 'hairlinelaw02.ZedRests', WHERE WHAT IT READS IS OF BULK AT MOST 1048576: true; the input reads as it did. -/
def zedRestsUptoRow : OpenClaim := { program := "ythnffjgbglncbaa", sum := "9f1e8f6244fbac49f1713624c3880e7317b6e6a096a2752e207f096a57a27316", func := "hairline/hairlinelaw02.ZedRests", spec := "zedRests", recurses := true, apart := false, narrowed := true }
def ZedRestsUptoSaid : Prop := zedRestsUptoRow.holds Try.pinned (OpenSpec.upto zedRestsSpec)

/-- 'hairlinelaw02.ZedHalves', WHERE WHAT IT READS IS OF BULK AT MOST 1048576: true; the input reads as it did. -/
def zedHalvesUptoRow : OpenClaim := { program := "ythnffjgbglncbaa", sum := "9f1e8f6244fbac49f1713624c3880e7317b6e6a096a2752e207f096a57a27316", func := "hairline/hairlinelaw02.ZedHalves", spec := "zedHalves", recurses := true, apart := false, narrowed := true }
def ZedHalvesUptoSaid : Prop := zedHalvesUptoRow.holds Try.pinned (OpenSpec.upto zedHalvesSpec)

end Rows
end Go.Proofs.Ythnffjgbglncbaa
