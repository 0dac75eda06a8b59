/-
  No cell of these rows narrows 'for every input' (looked for: loops, veiled, ifaces, maps, wideKeys, modest, calm, conditions, laid).
  DERIVED. THE GIVEN ROWS OF THIS SEAT. 9 by the template 'for every input the law returns true; each argument reads behind the call as it read before'; 0 by the template 'total and deterministic' (their statements: YtbpamkpclofnbaaGreatTotals.lean).
  GIVEN WITH THE SEED: the statements are not yours to turn. If you find one false, say at which input.
  Laid BY PROGRAM, IN A SANDBOX (cutbox-rows.mjs): the forced cells as the released guide's own fill.sh prints them over the translation 5f92c1805995f858… (all of the seat's roots in one cut). By AI agents, Wed Nov 11 2026. No macro, syntax, notation, axiom, sorry.
-/
import Derived.Test.YtbpamkpclofnbaaGreatChecked
import GoSem.Claim
import GoSem.ClaimJoined
import GoSem.ClaimMapViews
import Derived.JoinedTies
import Derived.KernelRfl
namespace Go.Proofs.YtbpamkpclofnbaaGreat
/- THE CELL 'sum', in the pinned program and in every row, IS THE sha256 OF THE DUMP (.gsa) THAT YtbpamkpclofnbaaGreatProg.lean LOADS. Nothing in Lean hashes anything: it is a label: what it is worth is what the hold of that sum in a sandbox is worth. -/
noncomputable def Tryz.pinned : Pinned := { name := "ytbpamkpclofnbaagreat", sum := "5f92c1805995f85892e996d48661177f3a738e161f31103648c599da6eeebb74", checked := Tryz.checked }
namespace Rows
def none {H : Type} : Left H := { results := [], args := [] }

/-- 'hairlinelaw10.PolyzCommon': WHATEVER THE INPUT: true; the input reads as it did. -/
def polyzCommonSpec : ChangeSpec := { name := "polyzCommon", fn := fun _ => fun
  | [d1, d2] => { results := [.lit (.bool true)], args := [d1, d2] }
  | _ => none }
def polyzCommonRow : OpenClaim := { program := "ytbpamkpclofnbaagreat", sum := "5f92c1805995f85892e996d48661177f3a738e161f31103648c599da6eeebb74", func := "hairline/hairlinelaw10.PolyzCommon", spec := "polyzCommon", unfollowed := true, recurses := true, apart := false }
def PolyzCommonSaid : Prop := polyzCommonRow.holds Tryz.pinned (OpenSpec.ofChange polyzCommonSpec)

/-- ITS FALSE NEIGHBOUR: 'it returns false'. Refute it at one input. -/
def polyzCommonWrong : ChangeSpec := { name := "polyzCommon", fn := fun _ => fun
  | [d1, d2] => { results := [.lit (.bool false)], args := [d1, d2] }
  | _ => none }
def PolyzCommonWrongFalsely : Prop := polyzCommonRow.holds Tryz.pinned (OpenSpec.ofChange polyzCommonWrong)

/-- 'hairlinelaw11.MatrixTells': WHATEVER THE INPUT: true; the input reads as it did. -/
def matrixTellsSpec : ChangeSpec := { name := "matrixTells", fn := fun _ => fun
  | [d1, d2] => { results := [.lit (.bool true)], args := [d1, d2] }
  | _ => none }
def matrixTellsRow : OpenClaim := { program := "ytbpamkpclofnbaagreat", sum := "5f92c1805995f85892e996d48661177f3a738e161f31103648c599da6eeebb74", func := "hairline/hairlinelaw11.MatrixTells", spec := "matrixTells", unfollowed := true, recurses := true, apart := false }
def MatrixTellsSaid : Prop := matrixTellsRow.holds Tryz.pinned (OpenSpec.ofChange matrixTellsSpec)

/-- ITS FALSE NEIGHBOUR: 'it returns false'. Refute it at one input. -/
def matrixTellsWrong : ChangeSpec := { name := "matrixTells", fn := fun _ => fun
  | [d1, d2] => { results := [.lit (.bool false)], args := [d1, d2] }
  | _ => none }
def MatrixTellsWrongFalsely : Prop := matrixTellsRow.holds Tryz.pinned (OpenSpec.ofChange matrixTellsWrong)

/-- 'hairlinelaw11.MatrixDets': WHATEVER THE INPUT: true; the input reads as it did. -/
def matrixDetsSpec : ChangeSpec := { name := "matrixDets", fn := fun _ => fun
  | [d] => { results := [.lit (.bool true)], args := [d] }
  | _ => none }
def matrixDetsRow : OpenClaim := { program := "ytbpamkpclofnbaagreat", sum := "5f92c1805995f85892e996d48661177f3a738e161f31103648c599da6eeebb74", func := "hairline/hairlinelaw11.MatrixDets", spec := "matrixDets", unfollowed := true, recurses := true, apart := false }
def MatrixDetsSaid : Prop := matrixDetsRow.holds Tryz.pinned (OpenSpec.ofChange matrixDetsSpec)

/-- ITS FALSE NEIGHBOUR: 'it returns false'. Refute it at one input. -/
def matrixDetsWrong : ChangeSpec := { name := "matrixDets", fn := fun _ => fun
  | [d] => { results := [.lit (.bool false)], args := [d] }
  | _ => none }
def MatrixDetsWrongFalsely : Prop := matrixDetsRow.holds Tryz.pinned (OpenSpec.ofChange matrixDetsWrong)

/-- 'hairlinelaw11.MatrixCofactors': WHATEVER THE INPUT: true; the input reads as it did. -/
def matrixCofactorsSpec : ChangeSpec := { name := "matrixCofactors", fn := fun _ => fun
  | [d1, d2] => { results := [.lit (.bool true)], args := [d1, d2] }
  | _ => none }
def matrixCofactorsRow : OpenClaim := { program := "ytbpamkpclofnbaagreat", sum := "5f92c1805995f85892e996d48661177f3a738e161f31103648c599da6eeebb74", func := "hairline/hairlinelaw11.MatrixCofactors", spec := "matrixCofactors", unfollowed := true, recurses := true, apart := false }
def MatrixCofactorsSaid : Prop := matrixCofactorsRow.holds Tryz.pinned (OpenSpec.ofChange matrixCofactorsSpec)

/-- ITS FALSE NEIGHBOUR: 'it returns false'. Refute it at one input. -/
def matrixCofactorsWrong : ChangeSpec := { name := "matrixCofactors", fn := fun _ => fun
  | [d1, d2] => { results := [.lit (.bool false)], args := [d1, d2] }
  | _ => none }
def MatrixCofactorsWrongFalsely : Prop := matrixCofactorsRow.holds Tryz.pinned (OpenSpec.ofChange matrixCofactorsWrong)

/-- 'hairlinelaw11.MatrixSylvesters': WHATEVER THE INPUT: true; the input reads as it did. -/
def matrixSylvestersSpec : ChangeSpec := { name := "matrixSylvesters", fn := fun _ => fun
  | [d1, d2] => { results := [.lit (.bool true)], args := [d1, d2] }
  | _ => none }
def matrixSylvestersRow : OpenClaim := { program := "ytbpamkpclofnbaagreat", sum := "5f92c1805995f85892e996d48661177f3a738e161f31103648c599da6eeebb74", func := "hairline/hairlinelaw11.MatrixSylvesters", spec := "matrixSylvesters", unfollowed := true, recurses := true, apart := false }
def MatrixSylvestersSaid : Prop := matrixSylvestersRow.holds Tryz.pinned (OpenSpec.ofChange matrixSylvestersSpec)

/-- ITS FALSE NEIGHBOUR: 'it returns false'. Refute it at one input. -/
def matrixSylvestersWrong : ChangeSpec := { name := "matrixSylvesters", fn := fun _ => fun
  | [d1, d2] => { results := [.lit (.bool false)], args := [d1, d2] }
  | _ => none }
def MatrixSylvestersWrongFalsely : Prop := matrixSylvestersRow.holds Tryz.pinned (OpenSpec.ofChange matrixSylvestersWrong)

/-- 'hairlinelaw11.MatrixRows': WHATEVER THE INPUT: true; the input reads as it did. -/
def matrixRowsSpec : ChangeSpec := { name := "matrixRows", fn := fun _ => fun
  | [d1, d2, d3, d4] => { results := [.lit (.bool true)], args := [d1, d2, d3, d4] }
  | _ => none }
def matrixRowsRow : OpenClaim := { program := "ytbpamkpclofnbaagreat", sum := "5f92c1805995f85892e996d48661177f3a738e161f31103648c599da6eeebb74", func := "hairline/hairlinelaw11.MatrixRows", spec := "matrixRows", unfollowed := true, recurses := true, apart := false }
def MatrixRowsSaid : Prop := matrixRowsRow.holds Tryz.pinned (OpenSpec.ofChange matrixRowsSpec)

/-- ITS FALSE NEIGHBOUR: 'it returns false'. Refute it at one input. -/
def matrixRowsWrong : ChangeSpec := { name := "matrixRows", fn := fun _ => fun
  | [d1, d2, d3, d4] => { results := [.lit (.bool false)], args := [d1, d2, d3, d4] }
  | _ => none }
def MatrixRowsWrongFalsely : Prop := matrixRowsRow.holds Tryz.pinned (OpenSpec.ofChange matrixRowsWrong)

/-- 'hairlinelaw11.MatrixCramers': WHATEVER THE INPUT: true; the input reads as it did. -/
def matrixCramersSpec : ChangeSpec := { name := "matrixCramers", fn := fun _ => fun
  | [d1, d2] => { results := [.lit (.bool true)], args := [d1, d2] }
  | _ => none }
def matrixCramersRow : OpenClaim := { program := "ytbpamkpclofnbaagreat", sum := "5f92c1805995f85892e996d48661177f3a738e161f31103648c599da6eeebb74", func := "hairline/hairlinelaw11.MatrixCramers", spec := "matrixCramers", unfollowed := true, recurses := true, apart := false }
def MatrixCramersSaid : Prop := matrixCramersRow.holds Tryz.pinned (OpenSpec.ofChange matrixCramersSpec)

/-- ITS FALSE NEIGHBOUR: 'it returns false'. Refute it at one input. -/
def matrixCramersWrong : ChangeSpec := { name := "matrixCramers", fn := fun _ => fun
  | [d1, d2] => { results := [.lit (.bool false)], args := [d1, d2] }
  | _ => none }
def MatrixCramersWrongFalsely : Prop := matrixCramersRow.holds Tryz.pinned (OpenSpec.ofChange matrixCramersWrong)

/-- 'hairlinelaw11.MatrixRanks': WHATEVER THE INPUT: true; the input reads as it did. -/
def matrixRanksSpec : ChangeSpec := { name := "matrixRanks", fn := fun _ => fun
  | [d1, d2] => { results := [.lit (.bool true)], args := [d1, d2] }
  | _ => none }
def matrixRanksRow : OpenClaim := { program := "ytbpamkpclofnbaagreat", sum := "5f92c1805995f85892e996d48661177f3a738e161f31103648c599da6eeebb74", func := "hairline/hairlinelaw11.MatrixRanks", spec := "matrixRanks", unfollowed := true, recurses := true, apart := false }
def MatrixRanksSaid : Prop := matrixRanksRow.holds Tryz.pinned (OpenSpec.ofChange matrixRanksSpec)

/-- ITS FALSE NEIGHBOUR: 'it returns false'. Refute it at one input. -/
def matrixRanksWrong : ChangeSpec := { name := "matrixRanks", fn := fun _ => fun
  | [d1, d2] => { results := [.lit (.bool false)], args := [d1, d2] }
  | _ => none }
def MatrixRanksWrongFalsely : Prop := matrixRanksRow.holds Tryz.pinned (OpenSpec.ofChange matrixRanksWrong)

/-- 'hairlinelaw11.MatrixResultants': WHATEVER THE INPUT: true; the input reads as it did. -/
def matrixResultantsSpec : ChangeSpec := { name := "matrixResultants", fn := fun _ => fun
  | [d1, d2, d3, d4] => { results := [.lit (.bool true)], args := [d1, d2, d3, d4] }
  | _ => none }
def matrixResultantsRow : OpenClaim := { program := "ytbpamkpclofnbaagreat", sum := "5f92c1805995f85892e996d48661177f3a738e161f31103648c599da6eeebb74", func := "hairline/hairlinelaw11.MatrixResultants", spec := "matrixResultants", unfollowed := true, recurses := true, apart := false }
def MatrixResultantsSaid : Prop := matrixResultantsRow.holds Tryz.pinned (OpenSpec.ofChange matrixResultantsSpec)

/-- ITS FALSE NEIGHBOUR: 'it returns false'. Refute it at one input. -/
def matrixResultantsWrong : ChangeSpec := { name := "matrixResultants", fn := fun _ => fun
  | [d1, d2, d3, d4] => { results := [.lit (.bool false)], args := [d1, d2, d3, d4] }
  | _ => none }
def MatrixResultantsWrongFalsely : Prop := matrixResultantsRow.holds Tryz.pinned (OpenSpec.ofChange matrixResultantsWrong)

/- THE SECOND FORM. 'bulk': how many values and letters a reading holds, each counted each time it is reached (what is shared counts as often as it is met; a slice's spare places count too). A statement '..UptoSaid' is the law's where the arguments, and the package variables that the reading takes, are together of bulk at most 1048576: NARROWER than '..Said'. Prove '..Said' where nothing that the law and all that it calls make is longer than what came in: it says more and counts as full. Else prove '..UptoSaid'. A law counts once. -/
mutual
def uptoBulk {H : Type} : DataW H → Nat
  | .lit (.string bytes) => bytes.length + 1
  | .lit _ => 1
  | .nil => 1
  | .ptr d => uptoBulk d + 1
  | .slice elems spare => uptoBulkAll elems + uptoBulkAll spare + 1
  | .agg parts => uptoBulkAll parts + 1
  | .iface _ d => uptoBulk d + 1
  | .map entries => uptoBulkEntries entries + 1
  | .held _ => 1
def uptoBulkAll {H : Type} : List (DataW H) → Nat
  | [] => 0
  | d :: r => uptoBulk d + uptoBulkAll r
def uptoBulkEntries {H : Type} : List (Lit × DataW H) → Nat
  | [] => 0
  | x :: r => uptoBulkEntry x + uptoBulkEntries r
def uptoBulkEntry {H : Type} : Lit × DataW H → Nat
  | (.string bytes, d) => bytes.length + uptoBulk d + 1
  | (_, d) => uptoBulk d + 1
 end
def uptoSmall : (H : Type) → List (DataW H) → Bool := fun _ ds => decide (uptoBulkAll ds ≤ 1048576)
def OpenSpec.upto (s : _root_.Go.ChangeSpec) : _root_.Go.OpenSpec := { _root_.Go.OpenSpec.ofChange s with cond := some uptoSmall }

/-- 'hairlinelaw10.PolyzCommon', WHERE WHAT IT READS IS OF BULK AT MOST 1048576: true; the input reads as it did. -/
def polyzCommonUptoRow : OpenClaim := { program := "ytbpamkpclofnbaagreat", sum := "5f92c1805995f85892e996d48661177f3a738e161f31103648c599da6eeebb74", func := "hairline/hairlinelaw10.PolyzCommon", spec := "polyzCommon", unfollowed := true, recurses := true, apart := false, narrowed := true }
def PolyzCommonUptoSaid : Prop := polyzCommonUptoRow.holds Tryz.pinned (OpenSpec.upto polyzCommonSpec)

/-- 'hairlinelaw11.MatrixTells', WHERE WHAT IT READS IS OF BULK AT MOST 1048576: true; the input reads as it did. -/
def matrixTellsUptoRow : OpenClaim := { program := "ytbpamkpclofnbaagreat", sum := "5f92c1805995f85892e996d48661177f3a738e161f31103648c599da6eeebb74", func := "hairline/hairlinelaw11.MatrixTells", spec := "matrixTells", unfollowed := true, recurses := true, apart := false, narrowed := true }
def MatrixTellsUptoSaid : Prop := matrixTellsUptoRow.holds Tryz.pinned (OpenSpec.upto matrixTellsSpec)

/-- 'hairlinelaw11.MatrixDets', WHERE WHAT IT READS IS OF BULK AT MOST 1048576: true; the input reads as it did. -/
def matrixDetsUptoRow : OpenClaim := { program := "ytbpamkpclofnbaagreat", sum := "5f92c1805995f85892e996d48661177f3a738e161f31103648c599da6eeebb74", func := "hairline/hairlinelaw11.MatrixDets", spec := "matrixDets", unfollowed := true, recurses := true, apart := false, narrowed := true }
def MatrixDetsUptoSaid : Prop := matrixDetsUptoRow.holds Tryz.pinned (OpenSpec.upto matrixDetsSpec)

/-- 'hairlinelaw11.MatrixCofactors', WHERE WHAT IT READS IS OF BULK AT MOST 1048576: true; the input reads as it did. -/
def matrixCofactorsUptoRow : OpenClaim := { program := "ytbpamkpclofnbaagreat", sum := "5f92c1805995f85892e996d48661177f3a738e161f31103648c599da6eeebb74", func := "hairline/hairlinelaw11.MatrixCofactors", spec := "matrixCofactors", unfollowed := true, recurses := true, apart := false, narrowed := true }
def MatrixCofactorsUptoSaid : Prop := matrixCofactorsUptoRow.holds Tryz.pinned (OpenSpec.upto matrixCofactorsSpec)

/-- 'hairlinelaw11.MatrixSylvesters', WHERE WHAT IT READS IS OF BULK AT MOST 1048576: true; the input reads as it did. -/
def matrixSylvestersUptoRow : OpenClaim := { program := "ytbpamkpclofnbaagreat", sum := "5f92c1805995f85892e996d48661177f3a738e161f31103648c599da6eeebb74", func := "hairline/hairlinelaw11.MatrixSylvesters", spec := "matrixSylvesters", unfollowed := true, recurses := true, apart := false, narrowed := true }
def MatrixSylvestersUptoSaid : Prop := matrixSylvestersUptoRow.holds Tryz.pinned (OpenSpec.upto matrixSylvestersSpec)

/-- 'hairlinelaw11.MatrixRows', WHERE WHAT IT READS IS OF BULK AT MOST 1048576: true; the input reads as it did. -/
def matrixRowsUptoRow : OpenClaim := { program := "ytbpamkpclofnbaagreat", sum := "5f92c1805995f85892e996d48661177f3a738e161f31103648c599da6eeebb74", func := "hairline/hairlinelaw11.MatrixRows", spec := "matrixRows", unfollowed := true, recurses := true, apart := false, narrowed := true }
def MatrixRowsUptoSaid : Prop := matrixRowsUptoRow.holds Tryz.pinned (OpenSpec.upto matrixRowsSpec)

/-- 'hairlinelaw11.MatrixCramers', WHERE WHAT IT READS IS OF BULK AT MOST 1048576: true; the input reads as it did. -/
def matrixCramersUptoRow : OpenClaim := { program := "ytbpamkpclofnbaagreat", sum := "5f92c1805995f85892e996d48661177f3a738e161f31103648c599da6eeebb74", func := "hairline/hairlinelaw11.MatrixCramers", spec := "matrixCramers", unfollowed := true, recurses := true, apart := false, narrowed := true }
def MatrixCramersUptoSaid : Prop := matrixCramersUptoRow.holds Tryz.pinned (OpenSpec.upto matrixCramersSpec)

/-- 'hairlinelaw11.MatrixRanks', WHERE WHAT IT READS IS OF BULK AT MOST 1048576: true; the input reads as it did. -/
def matrixRanksUptoRow : OpenClaim := { program := "ytbpamkpclofnbaagreat", sum := "5f92c1805995f85892e996d48661177f3a738e161f31103648c599da6eeebb74", func := "hairline/hairlinelaw11.MatrixRanks", spec := "matrixRanks", unfollowed := true, recurses := true, apart := false, narrowed := true }
def MatrixRanksUptoSaid : Prop := matrixRanksUptoRow.holds Tryz.pinned (OpenSpec.upto matrixRanksSpec)

/-- 'hairlinelaw11.MatrixResultants', WHERE WHAT IT READS IS OF BULK AT MOST 1048576: true; the input reads as it did. -/
def matrixResultantsUptoRow : OpenClaim := { program := "ytbpamkpclofnbaagreat", sum := "5f92c1805995f85892e996d48661177f3a738e161f31103648c599da6eeebb74", func := "hairline/hairlinelaw11.MatrixResultants", spec := "matrixResultants", unfollowed := true, recurses := true, apart := false, narrowed := true }
def MatrixResultantsUptoSaid : Prop := matrixResultantsUptoRow.holds Tryz.pinned (OpenSpec.upto matrixResultantsSpec)

end Rows
end Go.Proofs.YtbpamkpclofnbaaGreat
