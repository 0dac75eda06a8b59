/-
 The document's answer for zed: Sign, Cmp, Same, BitLen, Shl, Shr.
-/
import Derived.Test.YtjlbngjeekdfcaaGreatDoorPb
import Derived.Deep.AppendLies
import Derived.Test.YtjlbngjeekdfcaaGreatDoorPc
namespace Go.Proofs.YtjlbngjeekdfcaaGreatDoor
variable {base : Nat} {l : List Int} {w : World}
set_option maxRecDepth 100000
set_option linter.unusedVariables false
section
open Go.RowKit
end
section
open Go.RowKit
def Ow (w : World) (base : Nat) (v : Value) (l : List Int) : Prop := w.ownsRow base 67 1 v l.length (l.map (Value.int .u64))
theorem Ow.rd {v : Value} (h : Ow w base v l) (hl : Lim Wd l) (hn : l.length ≤ 17592186044416) : ∃ A n c, v = .slice A n c ∧ Rd w w.heap.size A n c l := by
 rcases h.2 with ⟨h1, h2⟩ | ⟨g, cap, cur, hv, hbg, hh, hnc, _⟩
 ·have : l = [] := List.eq_nil_of_length_eq_zero h2
  subst this
  exact ⟨_, _, _, h1, Rd.nil⟩
 ·refine ⟨_, _, _, hv, rfl, hnc, hn, hl, fun _ => ⟨g, 0, rfl, (Array.getElem?_eq_some_iff.1 hh).1, fun k hk => ?_⟩⟩
  have hc := World.ownsRow.cells h (g := g) (by rw [hv]; rfl) k (.int .u64 l[k]) (by simp [hk])
  rw [← hc]
  unfold Addr.add
  by_cases h0 : k = 0
  ·subst h0; simp
  ·rw [if_neg h0]
end
section
open Go.RowKit
end
section
open Go.RowKit
theorem run_append_zero {v : Value} (h : Ow w base v l) (ty : TypeId) (c : Nat) :
  (Builtin.append_ #[22, 22] ty #[v, .slice none 0 c]).run Tryz.prog w = .ok v w := by
 obtain ⟨i0, hi, hz0, hz1, hz2⟩ := info_parts Tryz.info64
 rcases h.2 with ⟨h1, h2⟩ | ⟨g, cap, cur, hv, _, _, hnc, _⟩
 ·rw [h1]
  simp [Builtin.append_, run_underlying Tryz.underlying22, sizeOf, typeInfo, hi, Builtin.lenOf, Builtin.firstCells]
 ·rw [hv]
  simp [Builtin.append_, run_underlying Tryz.underlying22, sizeOf, typeInfo, hi, Builtin.lenOf, Builtin.firstCells, hnc, storeCells]
theorem Ow.empty (w : World) (base : Nat) (hb : base ≤ w.heap.size) : Ow (w.alloc (.cells #[] 67)) base (.slice (some ⟨w.heap.size, 0, none⟩) 0 0) [] :=
 ⟨by simp, .inr ⟨w.heap.size, 0, #[], rfl, hb, heap_alloc_new w _, Nat.le_refl _, by unfold maxLen; omega, rfl, rfl⟩⟩
end
section
open Go.RowKit
end
section
open Go.RowKit
end
section
open Go.RowKit
end
section
open Go.RowKit
end
section
open Go.RowKit
end
section
open Go.RowKit
end
section
open Go.RowKit
end
end Go.Proofs.YtjlbngjeekdfcaaGreatDoor
