/-
  NARROWER THAN 'FOR EVERY INPUT', by the rows' own cells (each row's printed sentence says how): PointGaps: laid · PointLooks: laid · PointBetween: laid · PointFiner: laid · PointExact: laid.
  DERIVED. THE GIVEN ROWS OF THIS SEAT. 5 by the template 'for every input the law returns true; each argument reads behind the call as it read before'; 0 by the template 'total and deterministic' (their statements: YtdonaominffpnaaGreatDoorTotals.lean).
  GIVEN WITH THE SEED: the statements are not yours to turn. If you find one false, say at which input.
  Laid BY PROGRAM, IN A SANDBOX (cutbox-rows.mjs): the forced cells as the released guide's own fill.sh prints them over the translation b0333ac1c3593abf… (all of the seat's roots in one cut). By AI agents, Wed Nov 11 2026. No macro, syntax, notation, axiom, sorry.
-/
import Derived.Test.YtdonaominffpnaaGreatDoorChecked
import GoSem.Claim
import GoSem.ClaimJoined
import GoSem.ClaimMapViews
import Derived.JoinedTies
import Derived.KernelRfl
namespace Go.Proofs.YtdonaominffpnaaGreatDoor
/- THE CELL 'sum', in the pinned program and in every row, IS THE sha256 OF THE DUMP (.gsa) THAT YtdonaominffpnaaGreatDoorProg.lean LOADS. Nothing in Lean hashes anything: it is a label: what it is worth is what the hold of that sum in a sandbox is worth. -/
noncomputable def Tryz.pinned : Pinned := { name := "ytdonaominffpnaagreatdoor", sum := "b0333ac1c3593abf7a4115a37ce1bc57928871587f55fbe4ce64f71ddf5b3eef", checked := Tryz.checked }
namespace Rows
def none {H : Type} : Left H := { results := [], args := [] }

/- WHAT THE LISTED PACKAGE-LEVEL VARIABLES READ AS WHEN THE CALL BEGINS. Each datum BY PROGRAM (the guide's laid-datum.mjs) off the statement by which the dump's own 'gosem.cut.vars' lays the variable. In a bare row this is a premise. The card (YtdonaominffpnaaGreatDoorCards.lean) ties it to the program's text. -/
def laid_math_bits_deBruijn64tab {H : Type} : DataW H := .agg [.lit (.int .u8 0), .lit (.int .u8 1), .lit (.int .u8 56), .lit (.int .u8 2), .lit (.int .u8 57), .lit (.int .u8 49), .lit (.int .u8 28), .lit (.int .u8 3), .lit (.int .u8 61), .lit (.int .u8 58), .lit (.int .u8 42), .lit (.int .u8 50), .lit (.int .u8 38), .lit (.int .u8 29), .lit (.int .u8 17), .lit (.int .u8 4), .lit (.int .u8 62), .lit (.int .u8 47), .lit (.int .u8 59), .lit (.int .u8 36), .lit (.int .u8 45), .lit (.int .u8 43), .lit (.int .u8 51), .lit (.int .u8 22), .lit (.int .u8 53), .lit (.int .u8 39), .lit (.int .u8 33), .lit (.int .u8 30), .lit (.int .u8 24), .lit (.int .u8 18), .lit (.int .u8 12), .lit (.int .u8 5), .lit (.int .u8 63), .lit (.int .u8 55), .lit (.int .u8 48), .lit (.int .u8 27), .lit (.int .u8 60), .lit (.int .u8 41), .lit (.int .u8 37), .lit (.int .u8 16), .lit (.int .u8 46), .lit (.int .u8 35), .lit (.int .u8 44), .lit (.int .u8 21), .lit (.int .u8 52), .lit (.int .u8 32), .lit (.int .u8 23), .lit (.int .u8 11), .lit (.int .u8 54), .lit (.int .u8 26), .lit (.int .u8 40), .lit (.int .u8 15), .lit (.int .u8 34), .lit (.int .u8 20), .lit (.int .u8 31), .lit (.int .u8 10), .lit (.int .u8 25), .lit (.int .u8 14), .lit (.int .u8 19), .lit (.int .u8 9), .lit (.int .u8 13), .lit (.int .u8 8), .lit (.int .u8 7), .lit (.int .u8 6)]

/-- 'hairlinelaw09.PointGaps': WHATEVER THE INPUT: true; the input reads as it did. -/
def pointGapsSpec : ChangeSpec := { name := "pointGaps", fn := fun _ => fun
  | [d1, d2] => { results := [.lit (.bool true)], args := [d1, d2] }
  | _ => none }
def pointGapsRow : OpenClaim := { program := "ytdonaominffpnaagreatdoor", sum := "b0333ac1c3593abf7a4115a37ce1bc57928871587f55fbe4ce64f71ddf5b3eef", func := "hairline/hairlinelaw09.PointGaps", spec := "pointGaps", unfollowed := true, recurses := true, named := ["math/bits.deBruijn64tab"], apart := false, laid := [("math/bits.deBruijn64tab", laid_math_bits_deBruijn64tab)] }
def PointGapsSaid : Prop := pointGapsRow.holds Tryz.pinned (OpenSpec.ofChange pointGapsSpec)

/-- ITS FALSE NEIGHBOUR: 'it returns false'. Refute it at one input. -/
def pointGapsWrong : ChangeSpec := { name := "pointGaps", fn := fun _ => fun
  | [d1, d2] => { results := [.lit (.bool false)], args := [d1, d2] }
  | _ => none }
def PointGapsWrongFalsely : Prop := pointGapsRow.holds Tryz.pinned (OpenSpec.ofChange pointGapsWrong)

/-- 'hairlinelaw09.PointLooks': WHATEVER THE INPUT: true; the input reads as it did. -/
def pointLooksSpec : ChangeSpec := { name := "pointLooks", fn := fun _ => fun
  | [d1, d2, d3] => { results := [.lit (.bool true)], args := [d1, d2, d3] }
  | _ => none }
def pointLooksRow : OpenClaim := { program := "ytdonaominffpnaagreatdoor", sum := "b0333ac1c3593abf7a4115a37ce1bc57928871587f55fbe4ce64f71ddf5b3eef", func := "hairline/hairlinelaw09.PointLooks", spec := "pointLooks", unfollowed := true, recurses := true, named := ["math/bits.deBruijn64tab"], apart := false, laid := [("math/bits.deBruijn64tab", laid_math_bits_deBruijn64tab)] }
def PointLooksSaid : Prop := pointLooksRow.holds Tryz.pinned (OpenSpec.ofChange pointLooksSpec)

/-- ITS FALSE NEIGHBOUR: 'it returns false'. Refute it at one input. -/
def pointLooksWrong : ChangeSpec := { name := "pointLooks", fn := fun _ => fun
  | [d1, d2, d3] => { results := [.lit (.bool false)], args := [d1, d2, d3] }
  | _ => none }
def PointLooksWrongFalsely : Prop := pointLooksRow.holds Tryz.pinned (OpenSpec.ofChange pointLooksWrong)

/-- 'hairlinelaw09.PointBetween': WHATEVER THE INPUT: true; the input reads as it did. -/
def pointBetweenSpec : ChangeSpec := { name := "pointBetween", fn := fun _ => fun
  | [d1, d2, d3] => { results := [.lit (.bool true)], args := [d1, d2, d3] }
  | _ => none }
def pointBetweenRow : OpenClaim := { program := "ytdonaominffpnaagreatdoor", sum := "b0333ac1c3593abf7a4115a37ce1bc57928871587f55fbe4ce64f71ddf5b3eef", func := "hairline/hairlinelaw09.PointBetween", spec := "pointBetween", unfollowed := true, recurses := true, named := ["math/bits.deBruijn64tab"], apart := false, laid := [("math/bits.deBruijn64tab", laid_math_bits_deBruijn64tab)] }
def PointBetweenSaid : Prop := pointBetweenRow.holds Tryz.pinned (OpenSpec.ofChange pointBetweenSpec)

/-- ITS FALSE NEIGHBOUR: 'it returns false'. Refute it at one input. -/
def pointBetweenWrong : ChangeSpec := { name := "pointBetween", fn := fun _ => fun
  | [d1, d2, d3] => { results := [.lit (.bool false)], args := [d1, d2, d3] }
  | _ => none }
def PointBetweenWrongFalsely : Prop := pointBetweenRow.holds Tryz.pinned (OpenSpec.ofChange pointBetweenWrong)

/-- 'hairlinelaw09.PointFiner': WHATEVER THE INPUT: true; the input reads as it did. -/
def pointFinerSpec : ChangeSpec := { name := "pointFiner", fn := fun _ => fun
  | [d1, d2, d3, d4] => { results := [.lit (.bool true)], args := [d1, d2, d3, d4] }
  | _ => none }
def pointFinerRow : OpenClaim := { program := "ytdonaominffpnaagreatdoor", sum := "b0333ac1c3593abf7a4115a37ce1bc57928871587f55fbe4ce64f71ddf5b3eef", func := "hairline/hairlinelaw09.PointFiner", spec := "pointFiner", unfollowed := true, recurses := true, named := ["math/bits.deBruijn64tab"], apart := false, laid := [("math/bits.deBruijn64tab", laid_math_bits_deBruijn64tab)] }
def PointFinerSaid : Prop := pointFinerRow.holds Tryz.pinned (OpenSpec.ofChange pointFinerSpec)

/-- ITS FALSE NEIGHBOUR: 'it returns false'. Refute it at one input. -/
def pointFinerWrong : ChangeSpec := { name := "pointFiner", fn := fun _ => fun
  | [d1, d2, d3, d4] => { results := [.lit (.bool false)], args := [d1, d2, d3, d4] }
  | _ => none }
def PointFinerWrongFalsely : Prop := pointFinerRow.holds Tryz.pinned (OpenSpec.ofChange pointFinerWrong)

/-- 'hairlinelaw09.PointExact': WHATEVER THE INPUT: true; the input reads as it did. -/
def pointExactSpec : ChangeSpec := { name := "pointExact", fn := fun _ => fun
  | [d1, d2] => { results := [.lit (.bool true)], args := [d1, d2] }
  | _ => none }
def pointExactRow : OpenClaim := { program := "ytdonaominffpnaagreatdoor", sum := "b0333ac1c3593abf7a4115a37ce1bc57928871587f55fbe4ce64f71ddf5b3eef", func := "hairline/hairlinelaw09.PointExact", spec := "pointExact", unfollowed := true, recurses := true, named := ["math/bits.deBruijn64tab"], apart := false, laid := [("math/bits.deBruijn64tab", laid_math_bits_deBruijn64tab)] }
def PointExactSaid : Prop := pointExactRow.holds Tryz.pinned (OpenSpec.ofChange pointExactSpec)

/-- ITS FALSE NEIGHBOUR: 'it returns false'. Refute it at one input. -/
def pointExactWrong : ChangeSpec := { name := "pointExact", fn := fun _ => fun
  | [d1, d2] => { results := [.lit (.bool false)], args := [d1, d2] }
  | _ => none }
def PointExactWrongFalsely : Prop := pointExactRow.holds Tryz.pinned (OpenSpec.ofChange pointExactWrong)

/- THE SECOND FORM. 'bulk': how many values and letters a reading holds, each counted each time it is reached (what is shared counts as often as it is met; a slice's spare places count too). A statement '..UptoSaid' is the law's where the arguments, and the package variables that the reading takes, are together of bulk at most 1048576: NARROWER than '..Said'. Prove '..Said' where nothing that the law and all that it calls make is longer than what came in: it says more and counts as full. Else prove '..UptoSaid'. A law counts once. -/
mutual
def uptoBulk {H : Type} : DataW H → Nat
  | .lit (.string bytes) => bytes.length + 1
  | .lit _ => 1
  | .nil => 1
  | .ptr d => uptoBulk d + 1
  | .slice elems spare => uptoBulkAll elems + uptoBulkAll spare + 1
  | .agg parts => uptoBulkAll parts + 1
  | .iface _ d => uptoBulk d + 1
  | .map entries => uptoBulkEntries entries + 1
  | .held _ => 1
def uptoBulkAll {H : Type} : List (DataW H) → Nat
  | [] => 0
  | d :: r => uptoBulk d + uptoBulkAll r
def uptoBulkEntries {H : Type} : List (Lit × DataW H) → Nat
  | [] => 0
  | x :: r => uptoBulkEntry x + uptoBulkEntries r
def uptoBulkEntry {H : Type} : Lit × DataW H → Nat
  | (.string bytes, d) => bytes.length + uptoBulk d + 1
  | (_, d) => uptoBulk d + 1
 end
def uptoSmall : (H : Type) → List (DataW H) → Bool := fun _ ds => decide (uptoBulkAll ds ≤ 1048576)
def OpenSpec.upto (s : _root_.Go.ChangeSpec) : _root_.Go.OpenSpec := { _root_.Go.OpenSpec.ofChange s with cond := some uptoSmall }

/-- 'hairlinelaw09.PointGaps', WHERE WHAT IT READS IS OF BULK AT MOST 1048576: true; the input reads as it did. -/
def pointGapsUptoRow : OpenClaim := { program := "ytdonaominffpnaagreatdoor", sum := "b0333ac1c3593abf7a4115a37ce1bc57928871587f55fbe4ce64f71ddf5b3eef", func := "hairline/hairlinelaw09.PointGaps", spec := "pointGaps", unfollowed := true, recurses := true, named := ["math/bits.deBruijn64tab"], apart := false, laid := [("math/bits.deBruijn64tab", laid_math_bits_deBruijn64tab)], narrowed := true }
def PointGapsUptoSaid : Prop := pointGapsUptoRow.holds Tryz.pinned (OpenSpec.upto pointGapsSpec)

/-- 'hairlinelaw09.PointLooks', WHERE WHAT IT READS IS OF BULK AT MOST 1048576: true; the input reads as it did. -/
def pointLooksUptoRow : OpenClaim := { program := "ytdonaominffpnaagreatdoor", sum := "b0333ac1c3593abf7a4115a37ce1bc57928871587f55fbe4ce64f71ddf5b3eef", func := "hairline/hairlinelaw09.PointLooks", spec := "pointLooks", unfollowed := true, recurses := true, named := ["math/bits.deBruijn64tab"], apart := false, laid := [("math/bits.deBruijn64tab", laid_math_bits_deBruijn64tab)], narrowed := true }
def PointLooksUptoSaid : Prop := pointLooksUptoRow.holds Tryz.pinned (OpenSpec.upto pointLooksSpec)

/-- 'hairlinelaw09.PointBetween', WHERE WHAT IT READS IS OF BULK AT MOST 1048576: true; the input reads as it did. -/
def pointBetweenUptoRow : OpenClaim := { program := "ytdonaominffpnaagreatdoor", sum := "b0333ac1c3593abf7a4115a37ce1bc57928871587f55fbe4ce64f71ddf5b3eef", func := "hairline/hairlinelaw09.PointBetween", spec := "pointBetween", unfollowed := true, recurses := true, named := ["math/bits.deBruijn64tab"], apart := false, laid := [("math/bits.deBruijn64tab", laid_math_bits_deBruijn64tab)], narrowed := true }
def PointBetweenUptoSaid : Prop := pointBetweenUptoRow.holds Tryz.pinned (OpenSpec.upto pointBetweenSpec)

/-- 'hairlinelaw09.PointFiner', WHERE WHAT IT READS IS OF BULK AT MOST 1048576: true; the input reads as it did. -/
def pointFinerUptoRow : OpenClaim := { program := "ytdonaominffpnaagreatdoor", sum := "b0333ac1c3593abf7a4115a37ce1bc57928871587f55fbe4ce64f71ddf5b3eef", func := "hairline/hairlinelaw09.PointFiner", spec := "pointFiner", unfollowed := true, recurses := true, named := ["math/bits.deBruijn64tab"], apart := false, laid := [("math/bits.deBruijn64tab", laid_math_bits_deBruijn64tab)], narrowed := true }
def PointFinerUptoSaid : Prop := pointFinerUptoRow.holds Tryz.pinned (OpenSpec.upto pointFinerSpec)

/-- 'hairlinelaw09.PointExact', WHERE WHAT IT READS IS OF BULK AT MOST 1048576: true; the input reads as it did. -/
def pointExactUptoRow : OpenClaim := { program := "ytdonaominffpnaagreatdoor", sum := "b0333ac1c3593abf7a4115a37ce1bc57928871587f55fbe4ce64f71ddf5b3eef", func := "hairline/hairlinelaw09.PointExact", spec := "pointExact", unfollowed := true, recurses := true, named := ["math/bits.deBruijn64tab"], apart := false, laid := [("math/bits.deBruijn64tab", laid_math_bits_deBruijn64tab)], narrowed := true }
def PointExactUptoSaid : Prop := pointExactUptoRow.holds Tryz.pinned (OpenSpec.upto pointExactSpec)

end Rows
end Go.Proofs.YtdonaominffpnaaGreatDoor
