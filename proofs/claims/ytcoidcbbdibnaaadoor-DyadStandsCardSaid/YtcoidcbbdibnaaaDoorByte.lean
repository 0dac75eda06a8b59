/-
  Bytes made in a block of their own, and turned into a string.
-/
import Derived.Test.YtcoidcbbdibnaaaDoorBits
import Derived.Laws.IdiomStrings
namespace Go.Proofs.YtcoidcbbdibnaaaDoor
open Go.RowKit
set_option linter.unusedVariables false

def byteV (b : UInt8) : Value := .int .u8 (b.toNat : Int)
/-- Block g holds just the bytes l. -/
def Bk8 (w : World) (g : Nat) (l : List UInt8) : Prop := w.heap[g]? = some (.cells (l.map byteV).toArray 5 (0, 0))
section
variable {w w' : World} {g : Nat} {l : List UInt8}
theorem Bk8.lt (h : Bk8 w g l) : g < w.heap.size := by
  rcases Nat.lt_or_ge g w.heap.size with hlt | hge
  · exact hlt
  · unfold Bk8 at h; rw [Array.getElem?_eq_none hge] at h; cases h
theorem Bk8.cell (h : Bk8 w g l) (i : Nat) (hi : i < l.length) : w.cell? ⟨g, i, none⟩ = some (.int .u8 (l[i].toNat : Int)) := by
  rw [cell_of_row w g i _ 5 (0, 0) h]; simp [hi, byteV]
theorem Bk8.frozen (h : Bk8 w g l) (i : Nat) : w.frozen? ⟨g, i, none⟩ = false := by
  unfold Bk8 at h
  simp [World.frozen?, h]
theorem Bk8.set (h : Bk8 w g l) (i : Nat) (x : UInt8) : Bk8 (w.setCell ⟨g, i, none⟩ (.int .u8 (x.toNat : Int))) g (l.set i x) := by
  unfold Bk8 at h ⊢
  simp [World.setCell, Array.getElem?_modify, h, List.map_set, byteV]
theorem Bk8.below {B : Nat} (h : Bk8 w g l) (hb : Below B w w') (hg : g < B) : Bk8 w' g l := (hb.block g hg).trans h
end
theorem Tryd.info8 : (Tryd.prog.info? 5).map (fun i => (i.zero, i.size, i.bytes)) = some (some (.int .u8 0), 1, 1) := by kernel_rfl
theorem madeCells8 (n : Nat) : madeCells (Value.int .u8 0).cells n = ((List.replicate n (0 : UInt8)).map byteV).toArray := by
  apply Array.toList_inj.1
  rw [show (Value.int .u8 0).cells = #[.int .u8 0] from rfl, toList_madeCells_one]
  simp [byteV]
theorem wp_make8 {w : World} {ops : Array Oper} {rest : List Oper} {o : Oper} {a : Act} {Q : Exit → Act → World → Prop} (hg : o.guard = none) (l c : Operand) (hop : o.op = Op.makeSlice 62 l c)
    (n : Nat) (L C : Int) (hl : a.eval l = .int .i64 L) (hc : a.eval c = .int .i64 C) (hL : L = (n : Int)) (hC : C = (n : Int)) (hb : n ≤ 140737488355328)
    (hK : ∀ w', Bk8 w' w.heap.size (List.replicate n 0) → Below w.heap.size w w' → wpList Tryd.prog ops Q rest (a.put o.dst (.slice (some ⟨w.heap.size, 0, none⟩) n n)) w') :
    wpList Tryd.prog ops Q (o :: rest) a w := by
  obtain ⟨i0, hi, hz0, hz1, hz2⟩ := info_parts Tryd.info8
  refine wpList_make_full w hg l c 62 hop 0 5 i0 (.int .u8 0) 1 Tryd.underlying62 hi hz0 hz1 .i64 .i64 L C n hl hc hL hC (by rw [hz2]; omega) (by unfold maxLen; omega) (Nat.zero_le _) ?_
  intro w' hown hgrow
  refine hK w' ?_ ⟨hgrow.os, hgrow.tape, hgrow.output, hgrow.size, fun k hk => hgrow.block k hk (by simp)⟩
  obtain ⟨_, h2⟩ := hown
  rcases h2 with ⟨h, _⟩ | ⟨g, cap, cur, hv, _, hh, hnc, _, hcs, hxs⟩
  · cases h
  · injection hv with hv1 hv2 hv3
    injection hv1 with hv1
    injection hv1 with hv1
    subst hv1 hv3
    unfold Bk8
    rw [hh]
    congr 2
    rw [Nat.mul_one, madeCells8, List.take_of_length_le (by simp; omega)] at hxs
    exact Array.toList_inj.1 hxs

theorem conv_back {w : World} {g n : Nat} {l : List UInt8} (h : Bk8 w g l) (hn : l.length = n) : (convert 62 9 (.slice (some ⟨g, 0, none⟩) n n)).run Tryd.prog w = .ok (.string ⟨l.toArray⟩) w := by
  subst hn
  refine run_convert_bytes_back w 62 9 5 _ _ l Tryd.underlying62 Tryd.underlying5 Tryd.underlying9 (fun j hj => ?_)
  rw [← h.cell j hj]
  unfold Addr.add
  by_cases hj0 : j = 0
  · subst hj0; simp
  · rw [if_neg hj0]; simp

end Go.Proofs.YtcoidcbbdibnaaaDoor
