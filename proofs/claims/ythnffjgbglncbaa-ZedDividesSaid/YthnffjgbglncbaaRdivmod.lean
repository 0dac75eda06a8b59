/-
  The document's answer: DivMod.
-/
import Derived.Test.YthnffjgbglncbaaRdm
namespace Go.Proofs.Ythnffjgbglncbaa
open Go.RowKit
set_option linter.unusedVariables false

theorem RDivMod_any (A A2 : Option Addr) (n c n2 c2 : Nat) (l m : List Int) (w : World) (h : Rd w w.heap.size A n c l) (h2 : Rd w w.heap.size A2 n2 c2 m) (hn : n ≤ 1000000) (hn2 : n2 ≤ 1000000) (hM0 : 0 < vl Wd m) :
    Calls Try.prog 74 #[.slice A n c, .slice A2 n2 c2] w (DmPost w (vl Wd l) (vl Wd m)) := by
  rcases Nat.lt_or_ge 1 (dg Hb (vl Wd m)).length with h1 | h1
  · exact RDivMod_many A A2 n c n2 c2 l m w h h2 hn hn2 h1
  · refine RDivMod_one A A2 n c n2 c2 l m w h h2 hn hn2 ?_
    rcases Nat.eq_zero_or_pos (dg Hb (vl Wd m)).length with h0 | h0
    · have := (dg_eq_nil Hb2).1 (List.eq_nil_of_length_eq_zero h0)
      omega
    · omega

end Go.Proofs.Ythnffjgbglncbaa
