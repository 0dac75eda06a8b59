/-
  the document: Sub, Same.
-/
import Derived.Test.YtlaphcimlingaaaVRt
namespace Go.Proofs.Ytlaphcimlingaaa
open Go.RowKit
open MP.Se (nf co)
set_option linter.unusedVariables false
set_option maxRecDepth 100000

end Go.Proofs.Ytlaphcimlingaaa
