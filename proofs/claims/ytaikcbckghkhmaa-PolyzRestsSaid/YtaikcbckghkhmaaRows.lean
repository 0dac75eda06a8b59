/-
  No cell of these rows narrows 'for every input' (looked for: loops, veiled, ifaces, maps, wideKeys, modest, calm, conditions, laid).
  DERIVED. THE GIVEN ROWS OF THIS SEAT. 9 by the template 'for every input the law returns true; each argument reads behind the call as it read before'; 0 by the template 'total and deterministic' (their statements: YtaikcbckghkhmaaTotals.lean).
  GIVEN WITH THE SEED: the statements are not yours to turn. If you find one false, say at which input.
  Laid BY PROGRAM, IN A SANDBOX (cutbox-rows.mjs): the forced cells as the released guide's own fill.sh prints them over the translation 05b83e17448cc099… (all of the seat's roots in one cut). By AI agents, Wed Nov 11 2026. No macro, syntax, notation, axiom, sorry.
-/
import Derived.Test.YtaikcbckghkhmaaChecked
import GoSem.Claim
import GoSem.ClaimJoined
import GoSem.ClaimMapViews
import Derived.JoinedTies
import Derived.KernelRfl
namespace Go.Proofs.Ytaikcbckghkhmaa
/- THE CELL 'sum', in the pinned program and in every row, IS THE sha256 OF THE DUMP (.gsa) THAT YtaikcbckghkhmaaProg.lean LOADS. Nothing in Lean hashes anything: it is a label: what it is worth is what the hold of that sum in a sandbox is worth. -/
noncomputable def Try.pinned : Pinned := { name := "ytaikcbckghkhmaa", sum := "05b83e17448cc0994cda84fbad8f88a21648012987e5bbbbf00f14b200a69245", checked := Try.checked }
namespace Rows
def none {H : Type} : Left H := { results := [], args := [] }

/-- 'hairlinelaw10.PolyzMoves': WHATEVER THE INPUT: true; the input reads as it did. -/
def polyzMovesSpec : ChangeSpec := { name := "polyzMoves", fn := fun _ => fun
  | [d1, d2] => { results := [.lit (.bool true)], args := [d1, d2] }
  | _ => none }
def polyzMovesRow : OpenClaim := { program := "ytaikcbckghkhmaa", sum := "05b83e17448cc0994cda84fbad8f88a21648012987e5bbbbf00f14b200a69245", func := "hairline/hairlinelaw10.PolyzMoves", spec := "polyzMoves", unfollowed := true, recurses := true, apart := false }
def PolyzMovesSaid : Prop := polyzMovesRow.holds Try.pinned (OpenSpec.ofChange polyzMovesSpec)

/-- ITS FALSE NEIGHBOUR: 'it returns false'. Refute it at one input. -/
def polyzMovesWrong : ChangeSpec := { name := "polyzMoves", fn := fun _ => fun
  | [d1, d2] => { results := [.lit (.bool false)], args := [d1, d2] }
  | _ => none }
def PolyzMovesWrongFalsely : Prop := polyzMovesRow.holds Try.pinned (OpenSpec.ofChange polyzMovesWrong)

/-- 'hairlinelaw10.PolyzRings': WHATEVER THE INPUT: true; the input reads as it did. -/
def polyzRingsSpec : ChangeSpec := { name := "polyzRings", fn := fun _ => fun
  | [d1, d2, d3] => { results := [.lit (.bool true)], args := [d1, d2, d3] }
  | _ => none }
def polyzRingsRow : OpenClaim := { program := "ytaikcbckghkhmaa", sum := "05b83e17448cc0994cda84fbad8f88a21648012987e5bbbbf00f14b200a69245", func := "hairline/hairlinelaw10.PolyzRings", spec := "polyzRings", unfollowed := true, recurses := true, apart := false }
def PolyzRingsSaid : Prop := polyzRingsRow.holds Try.pinned (OpenSpec.ofChange polyzRingsSpec)

/-- ITS FALSE NEIGHBOUR: 'it returns false'. Refute it at one input. -/
def polyzRingsWrong : ChangeSpec := { name := "polyzRings", fn := fun _ => fun
  | [d1, d2, d3] => { results := [.lit (.bool false)], args := [d1, d2, d3] }
  | _ => none }
def PolyzRingsWrongFalsely : Prop := polyzRingsRow.holds Try.pinned (OpenSpec.ofChange polyzRingsWrong)

/-- 'hairlinelaw10.PolyzValues': WHATEVER THE INPUT: true; the input reads as it did. -/
def polyzValuesSpec : ChangeSpec := { name := "polyzValues", fn := fun _ => fun
  | [d1, d2, d3] => { results := [.lit (.bool true)], args := [d1, d2, d3] }
  | _ => none }
def polyzValuesRow : OpenClaim := { program := "ytaikcbckghkhmaa", sum := "05b83e17448cc0994cda84fbad8f88a21648012987e5bbbbf00f14b200a69245", func := "hairline/hairlinelaw10.PolyzValues", spec := "polyzValues", unfollowed := true, recurses := true, apart := false }
def PolyzValuesSaid : Prop := polyzValuesRow.holds Try.pinned (OpenSpec.ofChange polyzValuesSpec)

/-- ITS FALSE NEIGHBOUR: 'it returns false'. Refute it at one input. -/
def polyzValuesWrong : ChangeSpec := { name := "polyzValues", fn := fun _ => fun
  | [d1, d2, d3] => { results := [.lit (.bool false)], args := [d1, d2, d3] }
  | _ => none }
def PolyzValuesWrongFalsely : Prop := polyzValuesRow.holds Try.pinned (OpenSpec.ofChange polyzValuesWrong)

/-- 'hairlinelaw10.PolyzShifts': WHATEVER THE INPUT: true; the input reads as it did. -/
def polyzShiftsSpec : ChangeSpec := { name := "polyzShifts", fn := fun _ => fun
  | [d1, d2, d3] => { results := [.lit (.bool true)], args := [d1, d2, d3] }
  | _ => none }
def polyzShiftsRow : OpenClaim := { program := "ytaikcbckghkhmaa", sum := "05b83e17448cc0994cda84fbad8f88a21648012987e5bbbbf00f14b200a69245", func := "hairline/hairlinelaw10.PolyzShifts", spec := "polyzShifts", unfollowed := true, recurses := true, apart := false }
def PolyzShiftsSaid : Prop := polyzShiftsRow.holds Try.pinned (OpenSpec.ofChange polyzShiftsSpec)

/-- ITS FALSE NEIGHBOUR: 'it returns false'. Refute it at one input. -/
def polyzShiftsWrong : ChangeSpec := { name := "polyzShifts", fn := fun _ => fun
  | [d1, d2, d3] => { results := [.lit (.bool false)], args := [d1, d2, d3] }
  | _ => none }
def PolyzShiftsWrongFalsely : Prop := polyzShiftsRow.holds Try.pinned (OpenSpec.ofChange polyzShiftsWrong)

/-- 'hairlinelaw10.PolyzDerives': WHATEVER THE INPUT: true; the input reads as it did. -/
def polyzDerivesSpec : ChangeSpec := { name := "polyzDerives", fn := fun _ => fun
  | [d1, d2, d3] => { results := [.lit (.bool true)], args := [d1, d2, d3] }
  | _ => none }
def polyzDerivesRow : OpenClaim := { program := "ytaikcbckghkhmaa", sum := "05b83e17448cc0994cda84fbad8f88a21648012987e5bbbbf00f14b200a69245", func := "hairline/hairlinelaw10.PolyzDerives", spec := "polyzDerives", unfollowed := true, recurses := true, apart := false }
def PolyzDerivesSaid : Prop := polyzDerivesRow.holds Try.pinned (OpenSpec.ofChange polyzDerivesSpec)

/-- ITS FALSE NEIGHBOUR: 'it returns false'. Refute it at one input. -/
def polyzDerivesWrong : ChangeSpec := { name := "polyzDerives", fn := fun _ => fun
  | [d1, d2, d3] => { results := [.lit (.bool false)], args := [d1, d2, d3] }
  | _ => none }
def PolyzDerivesWrongFalsely : Prop := polyzDerivesRow.holds Try.pinned (OpenSpec.ofChange polyzDerivesWrong)

/-- 'hairlinelaw10.PolyzExact': WHATEVER THE INPUT: true; the input reads as it did. -/
def polyzExactSpec : ChangeSpec := { name := "polyzExact", fn := fun _ => fun
  | [d1, d2] => { results := [.lit (.bool true)], args := [d1, d2] }
  | _ => none }
def polyzExactRow : OpenClaim := { program := "ytaikcbckghkhmaa", sum := "05b83e17448cc0994cda84fbad8f88a21648012987e5bbbbf00f14b200a69245", func := "hairline/hairlinelaw10.PolyzExact", spec := "polyzExact", unfollowed := true, recurses := true, apart := false }
def PolyzExactSaid : Prop := polyzExactRow.holds Try.pinned (OpenSpec.ofChange polyzExactSpec)

/-- ITS FALSE NEIGHBOUR: 'it returns false'. Refute it at one input. -/
def polyzExactWrong : ChangeSpec := { name := "polyzExact", fn := fun _ => fun
  | [d1, d2] => { results := [.lit (.bool false)], args := [d1, d2] }
  | _ => none }
def PolyzExactWrongFalsely : Prop := polyzExactRow.holds Try.pinned (OpenSpec.ofChange polyzExactWrong)

/-- 'hairlinelaw10.PolyzRests': WHATEVER THE INPUT: true; the input reads as it did. -/
def polyzRestsSpec : ChangeSpec := { name := "polyzRests", fn := fun _ => fun
  | [d1, d2] => { results := [.lit (.bool true)], args := [d1, d2] }
  | _ => none }
def polyzRestsRow : OpenClaim := { program := "ytaikcbckghkhmaa", sum := "05b83e17448cc0994cda84fbad8f88a21648012987e5bbbbf00f14b200a69245", func := "hairline/hairlinelaw10.PolyzRests", spec := "polyzRests", unfollowed := true, recurses := true, apart := false }
def PolyzRestsSaid : Prop := polyzRestsRow.holds Try.pinned (OpenSpec.ofChange polyzRestsSpec)

/-- ITS FALSE NEIGHBOUR: 'it returns false'. Refute it at one input. -/
def polyzRestsWrong : ChangeSpec := { name := "polyzRests", fn := fun _ => fun
  | [d1, d2] => { results := [.lit (.bool false)], args := [d1, d2] }
  | _ => none }
def PolyzRestsWrongFalsely : Prop := polyzRestsRow.holds Try.pinned (OpenSpec.ofChange polyzRestsWrong)

/-- 'hairlinelaw10.PolyzGcds': WHATEVER THE INPUT: true; the input reads as it did. -/
def polyzGcdsSpec : ChangeSpec := { name := "polyzGcds", fn := fun _ => fun
  | [d1, d2, d3] => { results := [.lit (.bool true)], args := [d1, d2, d3] }
  | _ => none }
def polyzGcdsRow : OpenClaim := { program := "ytaikcbckghkhmaa", sum := "05b83e17448cc0994cda84fbad8f88a21648012987e5bbbbf00f14b200a69245", func := "hairline/hairlinelaw10.PolyzGcds", spec := "polyzGcds", unfollowed := true, recurses := true, apart := false }
def PolyzGcdsSaid : Prop := polyzGcdsRow.holds Try.pinned (OpenSpec.ofChange polyzGcdsSpec)

/-- ITS FALSE NEIGHBOUR: 'it returns false'. Refute it at one input. -/
def polyzGcdsWrong : ChangeSpec := { name := "polyzGcds", fn := fun _ => fun
  | [d1, d2, d3] => { results := [.lit (.bool false)], args := [d1, d2, d3] }
  | _ => none }
def PolyzGcdsWrongFalsely : Prop := polyzGcdsRow.holds Try.pinned (OpenSpec.ofChange polyzGcdsWrong)

/-- 'hairlinelaw10.PolyzSimple': WHATEVER THE INPUT: true; the input reads as it did. -/
def polyzSimpleSpec : ChangeSpec := { name := "polyzSimple", fn := fun _ => fun
  | [d1, d2] => { results := [.lit (.bool true)], args := [d1, d2] }
  | _ => none }
def polyzSimpleRow : OpenClaim := { program := "ytaikcbckghkhmaa", sum := "05b83e17448cc0994cda84fbad8f88a21648012987e5bbbbf00f14b200a69245", func := "hairline/hairlinelaw10.PolyzSimple", spec := "polyzSimple", unfollowed := true, recurses := true, apart := false }
def PolyzSimpleSaid : Prop := polyzSimpleRow.holds Try.pinned (OpenSpec.ofChange polyzSimpleSpec)

/-- ITS FALSE NEIGHBOUR: 'it returns false'. Refute it at one input. -/
def polyzSimpleWrong : ChangeSpec := { name := "polyzSimple", fn := fun _ => fun
  | [d1, d2] => { results := [.lit (.bool false)], args := [d1, d2] }
  | _ => none }
def PolyzSimpleWrongFalsely : Prop := polyzSimpleRow.holds Try.pinned (OpenSpec.ofChange polyzSimpleWrong)

/- THE SECOND FORM. 'bulk': how many values and letters a reading holds, each counted each time it is reached (what is shared counts as often as it is met; a slice's spare places count too). A statement '..UptoSaid' is the law's where the arguments, and the package variables that the reading takes, are together of bulk at most 1048576: NARROWER than '..Said'. Prove '..Said' where nothing that the law and all that it calls make is longer than what came in: it says more and counts as full. Else prove '..UptoSaid'. A law counts once. -/
mutual
def uptoBulk {H : Type} : DataW H → Nat
  | .lit (.string bytes) => bytes.length + 1
  | .lit _ => 1
  | .nil => 1
  | .ptr d => uptoBulk d + 1
  | .slice elems spare => uptoBulkAll elems + uptoBulkAll spare + 1
  | .agg parts => uptoBulkAll parts + 1
  | .iface _ d => uptoBulk d + 1
  | .map entries => uptoBulkEntries entries + 1
  | .held _ => 1
def uptoBulkAll {H : Type} : List (DataW H) → Nat
  | [] => 0
  | d :: r => uptoBulk d + uptoBulkAll r
def uptoBulkEntries {H : Type} : List (Lit × DataW H) → Nat
  | [] => 0
  | x :: r => uptoBulkEntry x + uptoBulkEntries r
def uptoBulkEntry {H : Type} : Lit × DataW H → Nat
  | (.string bytes, d) => bytes.length + uptoBulk d + 1
  | (_, d) => uptoBulk d + 1
 end
def uptoSmall : (H : Type) → List (DataW H) → Bool := fun _ ds => decide (uptoBulkAll ds ≤ 1048576)
def OpenSpec.upto (s : _root_.Go.ChangeSpec) : _root_.Go.OpenSpec := { _root_.Go.OpenSpec.ofChange s with cond := some uptoSmall }

/-- 'hairlinelaw10.PolyzMoves', WHERE WHAT IT READS IS OF BULK AT MOST 1048576: true; the input reads as it did. -/
def polyzMovesUptoRow : OpenClaim := { program := "ytaikcbckghkhmaa", sum := "05b83e17448cc0994cda84fbad8f88a21648012987e5bbbbf00f14b200a69245", func := "hairline/hairlinelaw10.PolyzMoves", spec := "polyzMoves", unfollowed := true, recurses := true, apart := false, narrowed := true }
def PolyzMovesUptoSaid : Prop := polyzMovesUptoRow.holds Try.pinned (OpenSpec.upto polyzMovesSpec)

/-- 'hairlinelaw10.PolyzRings', WHERE WHAT IT READS IS OF BULK AT MOST 1048576: true; the input reads as it did. -/
def polyzRingsUptoRow : OpenClaim := { program := "ytaikcbckghkhmaa", sum := "05b83e17448cc0994cda84fbad8f88a21648012987e5bbbbf00f14b200a69245", func := "hairline/hairlinelaw10.PolyzRings", spec := "polyzRings", unfollowed := true, recurses := true, apart := false, narrowed := true }
def PolyzRingsUptoSaid : Prop := polyzRingsUptoRow.holds Try.pinned (OpenSpec.upto polyzRingsSpec)

/-- 'hairlinelaw10.PolyzValues', WHERE WHAT IT READS IS OF BULK AT MOST 1048576: true; the input reads as it did. -/
def polyzValuesUptoRow : OpenClaim := { program := "ytaikcbckghkhmaa", sum := "05b83e17448cc0994cda84fbad8f88a21648012987e5bbbbf00f14b200a69245", func := "hairline/hairlinelaw10.PolyzValues", spec := "polyzValues", unfollowed := true, recurses := true, apart := false, narrowed := true }
def PolyzValuesUptoSaid : Prop := polyzValuesUptoRow.holds Try.pinned (OpenSpec.upto polyzValuesSpec)

/-- 'hairlinelaw10.PolyzShifts', WHERE WHAT IT READS IS OF BULK AT MOST 1048576: true; the input reads as it did. -/
def polyzShiftsUptoRow : OpenClaim := { program := "ytaikcbckghkhmaa", sum := "05b83e17448cc0994cda84fbad8f88a21648012987e5bbbbf00f14b200a69245", func := "hairline/hairlinelaw10.PolyzShifts", spec := "polyzShifts", unfollowed := true, recurses := true, apart := false, narrowed := true }
def PolyzShiftsUptoSaid : Prop := polyzShiftsUptoRow.holds Try.pinned (OpenSpec.upto polyzShiftsSpec)

/-- 'hairlinelaw10.PolyzDerives', WHERE WHAT IT READS IS OF BULK AT MOST 1048576: true; the input reads as it did. -/
def polyzDerivesUptoRow : OpenClaim := { program := "ytaikcbckghkhmaa", sum := "05b83e17448cc0994cda84fbad8f88a21648012987e5bbbbf00f14b200a69245", func := "hairline/hairlinelaw10.PolyzDerives", spec := "polyzDerives", unfollowed := true, recurses := true, apart := false, narrowed := true }
def PolyzDerivesUptoSaid : Prop := polyzDerivesUptoRow.holds Try.pinned (OpenSpec.upto polyzDerivesSpec)

/-- 'hairlinelaw10.PolyzExact', WHERE WHAT IT READS IS OF BULK AT MOST 1048576: true; the input reads as it did. -/
def polyzExactUptoRow : OpenClaim := { program := "ytaikcbckghkhmaa", sum := "05b83e17448cc0994cda84fbad8f88a21648012987e5bbbbf00f14b200a69245", func := "hairline/hairlinelaw10.PolyzExact", spec := "polyzExact", unfollowed := true, recurses := true, apart := false, narrowed := true }
def PolyzExactUptoSaid : Prop := polyzExactUptoRow.holds Try.pinned (OpenSpec.upto polyzExactSpec)

/-- 'hairlinelaw10.PolyzRests', WHERE WHAT IT READS IS OF BULK AT MOST 1048576: true; the input reads as it did. -/
def polyzRestsUptoRow : OpenClaim := { program := "ytaikcbckghkhmaa", sum := "05b83e17448cc0994cda84fbad8f88a21648012987e5bbbbf00f14b200a69245", func := "hairline/hairlinelaw10.PolyzRests", spec := "polyzRests", unfollowed := true, recurses := true, apart := false, narrowed := true }
def PolyzRestsUptoSaid : Prop := polyzRestsUptoRow.holds Try.pinned (OpenSpec.upto polyzRestsSpec)

/-- 'hairlinelaw10.PolyzGcds', WHERE WHAT IT READS IS OF BULK AT MOST 1048576: true; the input reads as it did. -/
def polyzGcdsUptoRow : OpenClaim := { program := "ytaikcbckghkhmaa", sum := "05b83e17448cc0994cda84fbad8f88a21648012987e5bbbbf00f14b200a69245", func := "hairline/hairlinelaw10.PolyzGcds", spec := "polyzGcds", unfollowed := true, recurses := true, apart := false, narrowed := true }
def PolyzGcdsUptoSaid : Prop := polyzGcdsUptoRow.holds Try.pinned (OpenSpec.upto polyzGcdsSpec)

/-- 'hairlinelaw10.PolyzSimple', WHERE WHAT IT READS IS OF BULK AT MOST 1048576: true; the input reads as it did. -/
def polyzSimpleUptoRow : OpenClaim := { program := "ytaikcbckghkhmaa", sum := "05b83e17448cc0994cda84fbad8f88a21648012987e5bbbbf00f14b200a69245", func := "hairline/hairlinelaw10.PolyzSimple", spec := "polyzSimple", unfollowed := true, recurses := true, apart := false, narrowed := true }
def PolyzSimpleUptoSaid : Prop := polyzSimpleUptoRow.holds Try.pinned (OpenSpec.upto polyzSimpleSpec)

end Rows
end Go.Proofs.Ytaikcbckghkhmaa
