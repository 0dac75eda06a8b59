/-
 the document's answers for ball: least, greatest.
-/
import Derived.Test.YtiigacddjihokaaGreatDoorLref0
namespace Go.Proofs.YtiigacddjihokaaGreatDoor
open Go.RowKit
set_option linter.unusedVariables false

/-- Block g begins with 2 integers, one behind the other. -/
def S2x (w : World) (g : Nat) (bb0 : Bool) (AA0 : Option Addr) (nn0 cc0 : Nat) (bb1 : Bool) (AA1 : Option Addr) (nn1 cc1 : Nat) : Prop := ∃ cs : Array Value, w.heap[g]? = some (.cells cs 24 (0, 0)) ∧ cs[0]? = some (.bool bb0) ∧ cs[1]? = some (.slice AA0 nn0 cc0) ∧ cs[2]? = some (.bool bb1) ∧ cs[3]? = some (.slice AA1 nn1 cc1)
section
variable {w w' : World} {g h : Nat} {bb0 : Bool} {AA0 : Option Addr} {nn0 cc0 : Nat} {bb1 : Bool} {AA1 : Option Addr} {nn1 cc1 : Nat}
theorem S2x.lt (h : S2x w g bb0 AA0 nn0 cc0 bb1 AA1 nn1 cc1) : g < w.heap.size := by
 obtain ⟨cs, h, _⟩ := h
 exact (Array.getElem?_eq_some_iff.1 h).1
theorem S2x.c0 (h : S2x w g bb0 AA0 nn0 cc0 bb1 AA1 nn1 cc1) : w.cell? ⟨g, 0, none⟩ = some (.bool bb0) := by
 obtain ⟨cs, h, hc⟩ := h
 rw [cell_of_row w g 0 _ _ (0, 0) h]
 exact hc.1
theorem S2x.c1 (h : S2x w g bb0 AA0 nn0 cc0 bb1 AA1 nn1 cc1) : w.cell? ⟨g, 1, none⟩ = some (.slice AA0 nn0 cc0) := by
 obtain ⟨cs, h, hc⟩ := h
 rw [cell_of_row w g 1 _ _ (0, 0) h]
 exact hc.2.1
theorem S2x.c2 (h : S2x w g bb0 AA0 nn0 cc0 bb1 AA1 nn1 cc1) : w.cell? ⟨g, 2, none⟩ = some (.bool bb1) := by
 obtain ⟨cs, h, hc⟩ := h
 rw [cell_of_row w g 2 _ _ (0, 0) h]
 exact hc.2.2.1
theorem S2x.c3 (h : S2x w g bb0 AA0 nn0 cc0 bb1 AA1 nn1 cc1) : w.cell? ⟨g, 3, none⟩ = some (.slice AA1 nn1 cc1) := by
 obtain ⟨cs, h, hc⟩ := h
 rw [cell_of_row w g 3 _ _ (0, 0) h]
 exact hc.2.2.2
theorem S2x.fr (h : S2x w g bb0 AA0 nn0 cc0 bb1 AA1 nn1 cc1) (i : Nat) : w.frozen? ⟨g, i, none⟩ = false := by
 obtain ⟨cs, h, hc⟩ := h
 simp [World.frozen?, h]
theorem S2x.al (h : S2x w g bb0 AA0 nn0 cc0 bb1 AA1 nn1 cc1) : w.cell? ⟨g, 0, none⟩ = some (.bool bb0) ∧ w.frozen? ⟨g, 0, none⟩ = false ∧ w.cell? ⟨g, 1, none⟩ = some (.slice AA0 nn0 cc0) ∧ w.frozen? ⟨g, 1, none⟩ = false ∧ w.cell? ⟨g, 2, none⟩ = some (.bool bb1) ∧ w.frozen? ⟨g, 2, none⟩ = false ∧ w.cell? ⟨g, 3, none⟩ = some (.slice AA1 nn1 cc1) ∧ w.frozen? ⟨g, 3, none⟩ = false := ⟨h.c0, h.fr 0, h.c1, h.fr 1, h.c2, h.fr 2, h.c3, h.fr 3⟩
theorem S2x.new (w : World) (bb0 : Bool) (AA0 : Option Addr) (nn0 cc0 : Nat) (bb1 : Bool) (AA1 : Option Addr) (nn1 cc1 : Nat) : S2x (w.alloc (.cells #[.bool bb0, .slice AA0 nn0 cc0, .bool bb1, .slice AA1 nn1 cc1] 24)) w.heap.size bb0 AA0 nn0 cc0 bb1 AA1 nn1 cc1 := ⟨_, heap_alloc_new w _, rfl, rfl, rfl, rfl⟩
theorem S2x.to {g' : Nat} (h : S2x w g bb0 AA0 nn0 cc0 bb1 AA1 nn1 cc1) (hb : w'.heap[g]? = w.heap[g]?) : S2x w' g bb0 AA0 nn0 cc0 bb1 AA1 nn1 cc1 := by
 obtain ⟨cs, h, hc⟩ := h
 exact ⟨cs, hb.trans h, hc⟩
theorem S2x.alloc (h : S2x w g bb0 AA0 nn0 cc0 bb1 AA1 nn1 cc1) (o : Obj) : S2x (w.alloc o) g bb0 AA0 nn0 cc0 bb1 AA1 nn1 cc1 := h.to (g' := 0) (Below.heap_alloc w o g h.lt)
theorem S2x.keep (h : S2x w g bb0 AA0 nn0 cc0 bb1 AA1 nn1 cc1) (hb : Below w.heap.size w w') : S2x w' g bb0 AA0 nn0 cc0 bb1 AA1 nn1 cc1 := h.to (g' := 0) (hb.block g h.lt)
theorem S2x.far (h : S2x w g bb0 AA0 nn0 cc0 bb1 AA1 nn1 cc1) {z : Addr} (hp : g ≠ z.block) (u : Value) : S2x (w.setCell z u) g bb0 AA0 nn0 cc0 bb1 AA1 nn1 cc1 := h.to (g' := 0) (Below.heap_setCell w z u g hp)
end
section
variable {w : World} {g h : Nat} {bb0 : Bool} {AA0 : Option Addr} {nn0 cc0 : Nat} {bb1 : Bool} {AA1 : Option Addr} {nn1 cc1 : Nat} {b' p' : Bool} {A' B' : Option Addr} {n' c' m' d' : Nat} {e' : Int}
theorem S2x.aside (x : S2x w h bb0 AA0 nn0 cc0 bb1 AA1 nn1 cc1) (hg : h ≠ g) : S2x ((w.setCell ⟨g, 0, none⟩ (.bool b')).setCell ⟨g, 1, none⟩ (.slice A' n' c')) h bb0 AA0 nn0 cc0 bb1 AA1 nn1 cc1 := (x.far hg _).far hg _
theorem S2x.asideL (x : S2x w h bb0 AA0 nn0 cc0 bb1 AA1 nn1 cc1) (hg : h ≠ g) : S2x (((((w.setCell ⟨g, 0, none⟩ (.bool b')).setCell ⟨g, 1, none⟩ (.slice A' n' c')).setCell ⟨g, 2, none⟩ (.bool p')).setCell ⟨g, 3, none⟩ (.slice B' m' d')).setCell ⟨g, 4, none⟩ (.int .i64 e')) h bb0 AA0 nn0 cc0 bb1 AA1 nn1 cc1 := ((((x.far hg _).far hg _).far hg _).far hg _).far hg _
end
/-- Block g begins with 4 integers, one behind the other. -/
def S4x (w : World) (g : Nat) (bb0 : Bool) (AA0 : Option Addr) (nn0 cc0 : Nat) (bb1 : Bool) (AA1 : Option Addr) (nn1 cc1 : Nat) (bb2 : Bool) (AA2 : Option Addr) (nn2 cc2 : Nat) (bb3 : Bool) (AA3 : Option Addr) (nn3 cc3 : Nat) : Prop := ∃ cs : Array Value, w.heap[g]? = some (.cells cs 24 (0, 0)) ∧ cs[0]? = some (.bool bb0) ∧ cs[1]? = some (.slice AA0 nn0 cc0) ∧ cs[2]? = some (.bool bb1) ∧ cs[3]? = some (.slice AA1 nn1 cc1) ∧ cs[4]? = some (.bool bb2) ∧ cs[5]? = some (.slice AA2 nn2 cc2) ∧ cs[6]? = some (.bool bb3) ∧ cs[7]? = some (.slice AA3 nn3 cc3)
section
variable {w w' : World} {g h : Nat} {bb0 : Bool} {AA0 : Option Addr} {nn0 cc0 : Nat} {bb1 : Bool} {AA1 : Option Addr} {nn1 cc1 : Nat} {bb2 : Bool} {AA2 : Option Addr} {nn2 cc2 : Nat} {bb3 : Bool} {AA3 : Option Addr} {nn3 cc3 : Nat}
theorem S4x.lt (h : S4x w g bb0 AA0 nn0 cc0 bb1 AA1 nn1 cc1 bb2 AA2 nn2 cc2 bb3 AA3 nn3 cc3) : g < w.heap.size := by
 obtain ⟨cs, h, _⟩ := h
 exact (Array.getElem?_eq_some_iff.1 h).1
theorem S4x.c0 (h : S4x w g bb0 AA0 nn0 cc0 bb1 AA1 nn1 cc1 bb2 AA2 nn2 cc2 bb3 AA3 nn3 cc3) : w.cell? ⟨g, 0, none⟩ = some (.bool bb0) := by
 obtain ⟨cs, h, hc⟩ := h
 rw [cell_of_row w g 0 _ _ (0, 0) h]
 exact hc.1
theorem S4x.c1 (h : S4x w g bb0 AA0 nn0 cc0 bb1 AA1 nn1 cc1 bb2 AA2 nn2 cc2 bb3 AA3 nn3 cc3) : w.cell? ⟨g, 1, none⟩ = some (.slice AA0 nn0 cc0) := by
 obtain ⟨cs, h, hc⟩ := h
 rw [cell_of_row w g 1 _ _ (0, 0) h]
 exact hc.2.1
theorem S4x.c2 (h : S4x w g bb0 AA0 nn0 cc0 bb1 AA1 nn1 cc1 bb2 AA2 nn2 cc2 bb3 AA3 nn3 cc3) : w.cell? ⟨g, 2, none⟩ = some (.bool bb1) := by
 obtain ⟨cs, h, hc⟩ := h
 rw [cell_of_row w g 2 _ _ (0, 0) h]
 exact hc.2.2.1
theorem S4x.c3 (h : S4x w g bb0 AA0 nn0 cc0 bb1 AA1 nn1 cc1 bb2 AA2 nn2 cc2 bb3 AA3 nn3 cc3) : w.cell? ⟨g, 3, none⟩ = some (.slice AA1 nn1 cc1) := by
 obtain ⟨cs, h, hc⟩ := h
 rw [cell_of_row w g 3 _ _ (0, 0) h]
 exact hc.2.2.2.1
theorem S4x.c4 (h : S4x w g bb0 AA0 nn0 cc0 bb1 AA1 nn1 cc1 bb2 AA2 nn2 cc2 bb3 AA3 nn3 cc3) : w.cell? ⟨g, 4, none⟩ = some (.bool bb2) := by
 obtain ⟨cs, h, hc⟩ := h
 rw [cell_of_row w g 4 _ _ (0, 0) h]
 exact hc.2.2.2.2.1
theorem S4x.c5 (h : S4x w g bb0 AA0 nn0 cc0 bb1 AA1 nn1 cc1 bb2 AA2 nn2 cc2 bb3 AA3 nn3 cc3) : w.cell? ⟨g, 5, none⟩ = some (.slice AA2 nn2 cc2) := by
 obtain ⟨cs, h, hc⟩ := h
 rw [cell_of_row w g 5 _ _ (0, 0) h]
 exact hc.2.2.2.2.2.1
theorem S4x.c6 (h : S4x w g bb0 AA0 nn0 cc0 bb1 AA1 nn1 cc1 bb2 AA2 nn2 cc2 bb3 AA3 nn3 cc3) : w.cell? ⟨g, 6, none⟩ = some (.bool bb3) := by
 obtain ⟨cs, h, hc⟩ := h
 rw [cell_of_row w g 6 _ _ (0, 0) h]
 exact hc.2.2.2.2.2.2.1
theorem S4x.c7 (h : S4x w g bb0 AA0 nn0 cc0 bb1 AA1 nn1 cc1 bb2 AA2 nn2 cc2 bb3 AA3 nn3 cc3) : w.cell? ⟨g, 7, none⟩ = some (.slice AA3 nn3 cc3) := by
 obtain ⟨cs, h, hc⟩ := h
 rw [cell_of_row w g 7 _ _ (0, 0) h]
 exact hc.2.2.2.2.2.2.2
theorem S4x.fr (h : S4x w g bb0 AA0 nn0 cc0 bb1 AA1 nn1 cc1 bb2 AA2 nn2 cc2 bb3 AA3 nn3 cc3) (i : Nat) : w.frozen? ⟨g, i, none⟩ = false := by
 obtain ⟨cs, h, hc⟩ := h
 simp [World.frozen?, h]
theorem S4x.al (h : S4x w g bb0 AA0 nn0 cc0 bb1 AA1 nn1 cc1 bb2 AA2 nn2 cc2 bb3 AA3 nn3 cc3) : w.cell? ⟨g, 0, none⟩ = some (.bool bb0) ∧ w.frozen? ⟨g, 0, none⟩ = false ∧ w.cell? ⟨g, 1, none⟩ = some (.slice AA0 nn0 cc0) ∧ w.frozen? ⟨g, 1, none⟩ = false ∧ w.cell? ⟨g, 2, none⟩ = some (.bool bb1) ∧ w.frozen? ⟨g, 2, none⟩ = false ∧ w.cell? ⟨g, 3, none⟩ = some (.slice AA1 nn1 cc1) ∧ w.frozen? ⟨g, 3, none⟩ = false ∧ w.cell? ⟨g, 4, none⟩ = some (.bool bb2) ∧ w.frozen? ⟨g, 4, none⟩ = false ∧ w.cell? ⟨g, 5, none⟩ = some (.slice AA2 nn2 cc2) ∧ w.frozen? ⟨g, 5, none⟩ = false ∧ w.cell? ⟨g, 6, none⟩ = some (.bool bb3) ∧ w.frozen? ⟨g, 6, none⟩ = false ∧ w.cell? ⟨g, 7, none⟩ = some (.slice AA3 nn3 cc3) ∧ w.frozen? ⟨g, 7, none⟩ = false := ⟨h.c0, h.fr 0, h.c1, h.fr 1, h.c2, h.fr 2, h.c3, h.fr 3, h.c4, h.fr 4, h.c5, h.fr 5, h.c6, h.fr 6, h.c7, h.fr 7⟩
theorem S4x.new (w : World) (bb0 : Bool) (AA0 : Option Addr) (nn0 cc0 : Nat) (bb1 : Bool) (AA1 : Option Addr) (nn1 cc1 : Nat) (bb2 : Bool) (AA2 : Option Addr) (nn2 cc2 : Nat) (bb3 : Bool) (AA3 : Option Addr) (nn3 cc3 : Nat) : S4x (w.alloc (.cells #[.bool bb0, .slice AA0 nn0 cc0, .bool bb1, .slice AA1 nn1 cc1, .bool bb2, .slice AA2 nn2 cc2, .bool bb3, .slice AA3 nn3 cc3] 24)) w.heap.size bb0 AA0 nn0 cc0 bb1 AA1 nn1 cc1 bb2 AA2 nn2 cc2 bb3 AA3 nn3 cc3 := ⟨_, heap_alloc_new w _, rfl, rfl, rfl, rfl, rfl, rfl, rfl, rfl⟩
theorem S4x.to {g' : Nat} (h : S4x w g bb0 AA0 nn0 cc0 bb1 AA1 nn1 cc1 bb2 AA2 nn2 cc2 bb3 AA3 nn3 cc3) (hb : w'.heap[g]? = w.heap[g]?) : S4x w' g bb0 AA0 nn0 cc0 bb1 AA1 nn1 cc1 bb2 AA2 nn2 cc2 bb3 AA3 nn3 cc3 := by
 obtain ⟨cs, h, hc⟩ := h
 exact ⟨cs, hb.trans h, hc⟩
theorem S4x.alloc (h : S4x w g bb0 AA0 nn0 cc0 bb1 AA1 nn1 cc1 bb2 AA2 nn2 cc2 bb3 AA3 nn3 cc3) (o : Obj) : S4x (w.alloc o) g bb0 AA0 nn0 cc0 bb1 AA1 nn1 cc1 bb2 AA2 nn2 cc2 bb3 AA3 nn3 cc3 := h.to (g' := 0) (Below.heap_alloc w o g h.lt)
theorem S4x.drw (h : S4x w g bb0 AA0 nn0 cc0 bb1 AA1 nn1 cc1 bb2 AA2 nn2 cc2 bb3 AA3 nn3 cc3) : S4x w.drew g bb0 AA0 nn0 cc0 bb1 AA1 nn1 cc1 bb2 AA2 nn2 cc2 bb3 AA3 nn3 cc3 := h
theorem S4x.keep (h : S4x w g bb0 AA0 nn0 cc0 bb1 AA1 nn1 cc1 bb2 AA2 nn2 cc2 bb3 AA3 nn3 cc3) (hb : Below w.heap.size w w') : S4x w' g bb0 AA0 nn0 cc0 bb1 AA1 nn1 cc1 bb2 AA2 nn2 cc2 bb3 AA3 nn3 cc3 := h.to (g' := 0) (hb.block g h.lt)
theorem S4x.far (h : S4x w g bb0 AA0 nn0 cc0 bb1 AA1 nn1 cc1 bb2 AA2 nn2 cc2 bb3 AA3 nn3 cc3) {z : Addr} (hp : g ≠ z.block) (u : Value) : S4x (w.setCell z u) g bb0 AA0 nn0 cc0 bb1 AA1 nn1 cc1 bb2 AA2 nn2 cc2 bb3 AA3 nn3 cc3 := h.to (g' := 0) (Below.heap_setCell w z u g hp)
end
section
variable {w : World} {g h : Nat} {bb0 : Bool} {AA0 : Option Addr} {nn0 cc0 : Nat} {bb1 : Bool} {AA1 : Option Addr} {nn1 cc1 : Nat} {bb2 : Bool} {AA2 : Option Addr} {nn2 cc2 : Nat} {bb3 : Bool} {AA3 : Option Addr} {nn3 cc3 : Nat} {b' p' : Bool} {A' B' : Option Addr} {n' c' m' d' : Nat} {e' : Int}
theorem S4x.aside (x : S4x w h bb0 AA0 nn0 cc0 bb1 AA1 nn1 cc1 bb2 AA2 nn2 cc2 bb3 AA3 nn3 cc3) (hg : h ≠ g) : S4x ((w.setCell ⟨g, 0, none⟩ (.bool b')).setCell ⟨g, 1, none⟩ (.slice A' n' c')) h bb0 AA0 nn0 cc0 bb1 AA1 nn1 cc1 bb2 AA2 nn2 cc2 bb3 AA3 nn3 cc3 := (x.far hg _).far hg _
theorem S4x.asideL (x : S4x w h bb0 AA0 nn0 cc0 bb1 AA1 nn1 cc1 bb2 AA2 nn2 cc2 bb3 AA3 nn3 cc3) (hg : h ≠ g) : S4x (((((w.setCell ⟨g, 0, none⟩ (.bool b')).setCell ⟨g, 1, none⟩ (.slice A' n' c')).setCell ⟨g, 2, none⟩ (.bool p')).setCell ⟨g, 3, none⟩ (.slice B' m' d')).setCell ⟨g, 4, none⟩ (.int .i64 e')) h bb0 AA0 nn0 cc0 bb1 AA1 nn1 cc1 bb2 AA2 nn2 cc2 bb3 AA3 nn3 cc3 := ((((x.far hg _).far hg _).far hg _).far hg _).far hg _
end
def minK (E0 E1 E2 E3 : Int) : Nat → Int
 | 0 => 0
 | 1 => E0
 | 2 => min E0 E1
 | 3 => min (min E0 E1) (E2)
 | _ => min (min (min E0 E1) (E2)) (E3)
def maxK (E0 E1 E2 E3 : Int) : Nat → Int
 | 0 => 0
 | 1 => E0
 | 2 => max E0 E1
 | 3 => max (max E0 E1) (E2)
 | _ => max (max (max E0 E1) (E2)) (E3)
/-- What the loop over the integers keeps. -/
def LsRel (w : World) (M : Int) (K : Nat) (wr : World) : Prop := Below w.heap.size w wr ∧ Bx wr w.heap.size false none 0 0 ∧ ∃ A n c, Bx wr (w.heap.size + 1) (ngB M) A n c ∧ Zn wr A n c M K

set_option maxRecDepth 100000 in
set_option maxHeartbeats 8000000 in
theorem least4_any {A0 : Option Addr} {n0 c0 : Nat} {E0 : Int} {A1 : Option Addr} {n1 c1 : Nat} {E1 : Int} {A2 : Option Addr} {n2 c2 : Nat} {E2 : Int} {A3 : Option Addr} {n3 c3 : Nat} {E3 : Int} {g cp K : Nat} {w : World} (x_s : S4x w g (ngB E0) A0 n0 c0 (ngB E1) A1 n1 c1 (ngB E2) A2 n2 c2 (ngB E3) A3 n3 c3) (e0 : Zn w A0 n0 c0 E0 K) (e1 : Zn w A1 n1 c1 E1 K) (e2 : Zn w A2 n2 c2 E2 K) (e3 : Zn w A3 n3 c3 E3 K) (hK : K ≤ 10000) :
  Calls Tryz.prog 63 #[.slice (some ⟨g, 0, none⟩) 4 cp] w (OutZ w (min (min (min E0 E1) (E2)) (E3)) K) := by
 have hgl := x_s.lt
 have HX := Lib.hid x_s; have HE0 := Lib.hid e0; have HE1 := Lib.hid e1; have HE2 := Lib.hid e2; have HE3 := Lib.hid e3
 obtain ⟨M0, hM0⟩ : ∃ M, min (min (min E0 E1) (E2)) (E3) = M := ⟨_, rfl⟩
 rw [hM0]
 have HM0 := Lib.hid hM0; clear hM0
 obtain ⟨q_s0, f_s0, q_s1, f_s1, q_s2, f_s2, q_s3, f_s3, q_s4, f_s4, q_s5, f_s5, q_s6, f_s6, q_s7, f_s7⟩ := x_s.al
 have yy := (x_s.alloc (.cells #[.bool false, .slice none 0 0] 24)).al
 obtain ⟨qy0, fy0, qy1, fy1, qy2, fy2, qy3, fy3, qy4, fy4, qy5, fy5, qy6, fy6, qy7, fy7⟩ := yy
 go_enter Tryz.func63, Tryz.ntmps63
 go_wp2_with fail
 clear q_s0 f_s0 qy0 fy0 q_s1 f_s1 qy1 fy1 q_s2 f_s2 qy2 fy2 q_s3 f_s3 qy3 fy3 q_s4 f_s4 qy4 fy4 q_s5 f_s5 qy5 fy5 q_s6 f_s6 qy6 fy6 q_s7 f_s7 qy7 fy7
 have x_r : Bx (w.alloc (.cells #[.bool false, .slice none 0 0] 24)) (w.heap.size) false none 0 0 := by have := Bx.new w false none 0 0; simpa using this
 replace x_r := x_r.alloc (.cells #[.bool (ngB E0), .slice A0 n0 c0] 24)
 have x_o : Bx ((w.alloc (.cells #[.bool false, .slice none 0 0] 24)).alloc (.cells #[.bool (ngB E0), .slice A0 n0 c0] 24)) (w.heap.size + 1) (ngB E0) A0 n0 c0 := by have := Bx.new (w.alloc (.cells #[.bool false, .slice none 0 0] 24)) (ngB E0) A0 n0 c0; simpa using this
 have hb : Below w.heap.size w ((w.alloc (.cells #[.bool false, .slice none 0 0] 24)).alloc (.cells #[.bool (ngB E0), .slice A0 n0 c0] 24)) := (Below.alloc (Below.alloc (Below.refl w.heap.size w) (by simp) (.cells #[.bool false, .slice none 0 0] 24)) (by simp) (.cells #[.bool (ngB E0), .slice A0 n0 c0] 24))
 generalize (w.alloc (.cells #[.bool false, .slice none 0 0] 24)).alloc (.cells #[.bool (ngB E0), .slice A0 n0 c0] 24) = v1 at *
 replace x_s := x_s.keep hb
 replace e0 := e0.keep hb
 replace e1 := e1.keep hb
 replace e2 := e2.keep hb
 replace e3 := e3.keep hb
 obtain ⟨q_r0, f_r0, q_r1, f_r1⟩ := x_r.al
 obtain ⟨q_o0, f_o0, q_o1, f_o1⟩ := x_o.al
 have hrel0 : LsRel w (minK E0 E1 E2 E3 1) K v1 := ⟨hb, x_r, _, _, _, x_o, e0⟩
 clear hb x_r x_o x_s e0 e1 e2 e3
 clear q_r0 f_r0 q_r1 f_r1 q_o0 f_o0 q_o1 f_o1
 go_loopw [4] (fun iv wr => ∃ k : Nat, 1 ≤ k ∧ k ≤ 4 ∧ iv = .int .i64 k ∧ LsRel w (minK E0 E1 E2 E3 k) K wr) (fun iv _ => 4 - (intOf iv).toNat)
 case atStart => exact ⟨1, by omega, by omega, rfl, hrel0⟩
 case round =>
  clear hrel0
  obtain ⟨k, hk1, hk, rfl, hb, x_r, Ao, no_, co, x_o, zo⟩ := hrel
  have x_s := HX.out.keep hb; have e0 := HE0.out.keep hb; have e1 := HE1.out.keep hb; have e2 := HE2.out.keep hb; have e3 := HE3.out.keep hb
  rcases (show k = 1 ∨ k = 2 ∨ k = 3 ∨ k = 4 by omega) with rfl | rfl | rfl | rfl
  ·obtain ⟨M, hM⟩ : ∃ M, minK E0 E1 E2 E3 1 = M := ⟨_, rfl⟩
   rw [hM] at zo x_o
   have hM2 : minK E0 E1 E2 E3 2 = min M E1 := by rw [← hM]; rfl
   clear hM
   have i1 := sgnI_lt0 (X := E1 - M); have i2 := sgnI_gt0 (X := E1 - M)
   obtain ⟨C, hC⟩ : ∃ C, sgnI (E1 - M) = C := ⟨_, rfl⟩
   rw [hC] at i1 i2
   have HC := Lib.hid hC; clear hC
   rcases (show (C < 0 ∧ minK E0 E1 E2 E3 2 = E1) ∨ (0 ≤ C ∧ minK E0 E1 E2 E3 2 = M) by rw [hM2]; omega) with ⟨d1, m1⟩ | ⟨d1, m1⟩
   ·have HM1 := Lib.hid m1; clear m1 i1 i2 hM2
    obtain ⟨q_s0, f_s0, q_s1, f_s1, q_s2, f_s2, q_s3, f_s3, q_s4, f_s4, q_s5, f_s5, q_s6, f_s6, q_s7, f_s7⟩ := x_s.al
    obtain ⟨q_o0, f_o0, q_o1, f_o1⟩ := x_o.al
    go_wp2_with fail
    go_region_held3 (fun w' => w'.cell? ⟨g, 0, none⟩ = some (.bool (ngB E0)) ∧ w'.cell? ⟨g, 1, none⟩ = some (.slice A0 n0 c0) ∧ w'.cell? ⟨g, 2, none⟩ = some (.bool (ngB E1)) ∧ w'.cell? ⟨g, 3, none⟩ = some (.slice A1 n1 c1) ∧ w'.cell? ⟨g, 4, none⟩ = some (.bool (ngB E2)) ∧ w'.cell? ⟨g, 5, none⟩ = some (.slice A2 n2 c2) ∧ w'.cell? ⟨g, 6, none⟩ = some (.bool (ngB E3)) ∧ w'.cell? ⟨g, 7, none⟩ = some (.slice A3 n3 c3) ∧ w'.cell? ⟨w.heap.size + 1, 0, none⟩ = some (.bool (ngB M)) ∧ w'.cell? ⟨w.heap.size + 1, 1, none⟩ = some (.slice Ao no_ co))
     (first | (with_reducible exact ⟨x_s.c0, x_s.c1, x_s.c2, x_s.c3, x_s.c4, x_s.c5, x_s.c6, x_s.c7, x_o.c0, x_o.c1⟩) | (with_reducible exact ⟨(x_s.aside (by omega)).c0, (x_s.aside (by omega)).c1, (x_s.aside (by omega)).c2, (x_s.aside (by omega)).c3, (x_s.aside (by omega)).c4, (x_s.aside (by omega)).c5, (x_s.aside (by omega)).c6, (x_s.aside (by omega)).c7, (x_o.aside (by omega)).c0, (x_o.aside (by omega)).c1⟩) | (with_reducible exact ⟨((x_s.aside (by omega)).aside (by omega)).c0, ((x_s.aside (by omega)).aside (by omega)).c1, ((x_s.aside (by omega)).aside (by omega)).c2, ((x_s.aside (by omega)).aside (by omega)).c3, ((x_s.aside (by omega)).aside (by omega)).c4, ((x_s.aside (by omega)).aside (by omega)).c5, ((x_s.aside (by omega)).aside (by omega)).c6, ((x_s.aside (by omega)).aside (by omega)).c7, ((x_o.aside (by omega)).aside (by omega)).c0, ((x_o.aside (by omega)).aside (by omega)).c1⟩) | go_keep)
     (first | (go_at_call 50; (with_reducible refine (RCmpZ_any e1.drw.zr zo.drw.zr 20000 (by omega) (by omega) (by omega)).mono ?_); rintro e v2 ⟨rfl, hb1⟩; replace hb1 := undrew hb1; replace x_r := x_r.keep hb1; replace x_s := x_s.keep hb1; replace x_o := x_o.keep hb1; replace zo := zo.keep hb1; replace e0 := e0.keep hb1; replace e1 := e1.keep hb1; replace e2 := e2.keep hb1; replace e3 := e3.keep hb1; replace hb := bthen hb hb1; clear hb1; clear q_s0 f_s0 q_s1 f_s1 q_s2 f_s2 q_s3 f_s3 q_s4 f_s4 q_s5 f_s5 q_s6 f_s6 q_s7 f_s7; obtain ⟨q_s0, f_s0, q_s1, f_s1, q_s2, f_s2, q_s3, f_s3, q_s4, f_s4, q_s5, f_s5, q_s6, f_s6, q_s7, f_s7⟩ := x_s.al; clear q_o0 f_o0 q_o1 f_o1; obtain ⟨q_o0, f_o0, q_o1, f_o1⟩ := x_o.al; rw [HC.out]))
    go_wp2
    replace x_r := x_r.aside (b' := (ngB E1)) (A' := A1) (n' := n1) (c' := c1) (g := w.heap.size + 1) (by omega)
    replace x_s := x_s.aside (b' := (ngB E1)) (A' := A1) (n' := n1) (c' := c1) (g := w.heap.size + 1) (by omega)
    replace zo := zo.put (b' := (ngB E1)) (A' := A1) (n' := n1) (c' := c1) x_o
    replace e0 := e0.put (b' := (ngB E1)) (A' := A1) (n' := n1) (c' := c1) x_o
    replace e1 := e1.put (b' := (ngB E1)) (A' := A1) (n' := n1) (c' := c1) x_o
    replace e2 := e2.put (b' := (ngB E1)) (A' := A1) (n' := n1) (c' := c1) x_o
    replace e3 := e3.put (b' := (ngB E1)) (A' := A1) (n' := n1) (c' := c1) x_o
    replace hb := put_below (g := w.heap.size + 1) hb (by omega) (.bool (ngB E1)) (.slice A1 n1 c1)
    replace x_o := x_o.put (ngB E1) A1 n1 c1
    clear q_s0 f_s0 q_s1 f_s1 q_s2 f_s2 q_s3 f_s3 q_s4 f_s4 q_s5 f_s5 q_s6 f_s6 q_s7 f_s7 q_o0 f_o0 q_o1 f_o1
    generalize (v2.setCell ⟨w.heap.size + 1, 0, none⟩ (.bool (ngB E1))).setCell ⟨w.heap.size + 1, 1, none⟩ (.slice A1 n1 c1) = v3 at *
    obtain ⟨q_s0, f_s0, q_s1, f_s1, q_s2, f_s2, q_s3, f_s3, q_s4, f_s4, q_s5, f_s5, q_s6, f_s6, q_s7, f_s7⟩ := x_s.al
    obtain ⟨q_o0, f_o0, q_o1, f_o1⟩ := x_o.al
    go_roundw
    case rel => exact ⟨2, by omega, by omega, by go_num, hb, x_r, _, _, _, by rw [HM1.out]; exact x_o, by rw [HM1.out]; exact e1⟩
    case measure => simp [intOf]
   ·have HM1 := Lib.hid m1; clear m1 i1 i2 hM2
    obtain ⟨q_s0, f_s0, q_s1, f_s1, q_s2, f_s2, q_s3, f_s3, q_s4, f_s4, q_s5, f_s5, q_s6, f_s6, q_s7, f_s7⟩ := x_s.al
    obtain ⟨q_o0, f_o0, q_o1, f_o1⟩ := x_o.al
    go_wp2_with fail
    go_region_held3 (fun w' => w'.cell? ⟨g, 0, none⟩ = some (.bool (ngB E0)) ∧ w'.cell? ⟨g, 1, none⟩ = some (.slice A0 n0 c0) ∧ w'.cell? ⟨g, 2, none⟩ = some (.bool (ngB E1)) ∧ w'.cell? ⟨g, 3, none⟩ = some (.slice A1 n1 c1) ∧ w'.cell? ⟨g, 4, none⟩ = some (.bool (ngB E2)) ∧ w'.cell? ⟨g, 5, none⟩ = some (.slice A2 n2 c2) ∧ w'.cell? ⟨g, 6, none⟩ = some (.bool (ngB E3)) ∧ w'.cell? ⟨g, 7, none⟩ = some (.slice A3 n3 c3) ∧ w'.cell? ⟨w.heap.size + 1, 0, none⟩ = some (.bool (ngB M)) ∧ w'.cell? ⟨w.heap.size + 1, 1, none⟩ = some (.slice Ao no_ co))
     (first | (with_reducible exact ⟨x_s.c0, x_s.c1, x_s.c2, x_s.c3, x_s.c4, x_s.c5, x_s.c6, x_s.c7, x_o.c0, x_o.c1⟩) | (with_reducible exact ⟨(x_s.aside (by omega)).c0, (x_s.aside (by omega)).c1, (x_s.aside (by omega)).c2, (x_s.aside (by omega)).c3, (x_s.aside (by omega)).c4, (x_s.aside (by omega)).c5, (x_s.aside (by omega)).c6, (x_s.aside (by omega)).c7, (x_o.aside (by omega)).c0, (x_o.aside (by omega)).c1⟩) | (with_reducible exact ⟨((x_s.aside (by omega)).aside (by omega)).c0, ((x_s.aside (by omega)).aside (by omega)).c1, ((x_s.aside (by omega)).aside (by omega)).c2, ((x_s.aside (by omega)).aside (by omega)).c3, ((x_s.aside (by omega)).aside (by omega)).c4, ((x_s.aside (by omega)).aside (by omega)).c5, ((x_s.aside (by omega)).aside (by omega)).c6, ((x_s.aside (by omega)).aside (by omega)).c7, ((x_o.aside (by omega)).aside (by omega)).c0, ((x_o.aside (by omega)).aside (by omega)).c1⟩) | go_keep)
     (first | (go_at_call 50; (with_reducible refine (RCmpZ_any e1.drw.zr zo.drw.zr 20000 (by omega) (by omega) (by omega)).mono ?_); rintro e v2 ⟨rfl, hb1⟩; replace hb1 := undrew hb1; replace x_r := x_r.keep hb1; replace x_s := x_s.keep hb1; replace x_o := x_o.keep hb1; replace zo := zo.keep hb1; replace e0 := e0.keep hb1; replace e1 := e1.keep hb1; replace e2 := e2.keep hb1; replace e3 := e3.keep hb1; replace hb := bthen hb hb1; clear hb1; clear q_s0 f_s0 q_s1 f_s1 q_s2 f_s2 q_s3 f_s3 q_s4 f_s4 q_s5 f_s5 q_s6 f_s6 q_s7 f_s7; obtain ⟨q_s0, f_s0, q_s1, f_s1, q_s2, f_s2, q_s3, f_s3, q_s4, f_s4, q_s5, f_s5, q_s6, f_s6, q_s7, f_s7⟩ := x_s.al; clear q_o0 f_o0 q_o1 f_o1; obtain ⟨q_o0, f_o0, q_o1, f_o1⟩ := x_o.al; rw [HC.out]))
    go_wp2
    go_roundw
    case rel => exact ⟨2, by omega, by omega, by go_num, hb, x_r, _, _, _, by rw [HM1.out]; exact x_o, by rw [HM1.out]; exact zo⟩
    case measure => simp [intOf]
  ·obtain ⟨M, hM⟩ : ∃ M, minK E0 E1 E2 E3 2 = M := ⟨_, rfl⟩
   rw [hM] at zo x_o
   have hM2 : minK E0 E1 E2 E3 3 = min M E2 := by rw [← hM]; rfl
   clear hM
   have i1 := sgnI_lt0 (X := E2 - M); have i2 := sgnI_gt0 (X := E2 - M)
   obtain ⟨C, hC⟩ : ∃ C, sgnI (E2 - M) = C := ⟨_, rfl⟩
   rw [hC] at i1 i2
   have HC := Lib.hid hC; clear hC
   rcases (show (C < 0 ∧ minK E0 E1 E2 E3 3 = E2) ∨ (0 ≤ C ∧ minK E0 E1 E2 E3 3 = M) by rw [hM2]; omega) with ⟨d1, m1⟩ | ⟨d1, m1⟩
   ·have HM1 := Lib.hid m1; clear m1 i1 i2 hM2
    obtain ⟨q_s0, f_s0, q_s1, f_s1, q_s2, f_s2, q_s3, f_s3, q_s4, f_s4, q_s5, f_s5, q_s6, f_s6, q_s7, f_s7⟩ := x_s.al
    obtain ⟨q_o0, f_o0, q_o1, f_o1⟩ := x_o.al
    go_wp2_with fail
    go_region_held3 (fun w' => w'.cell? ⟨g, 0, none⟩ = some (.bool (ngB E0)) ∧ w'.cell? ⟨g, 1, none⟩ = some (.slice A0 n0 c0) ∧ w'.cell? ⟨g, 2, none⟩ = some (.bool (ngB E1)) ∧ w'.cell? ⟨g, 3, none⟩ = some (.slice A1 n1 c1) ∧ w'.cell? ⟨g, 4, none⟩ = some (.bool (ngB E2)) ∧ w'.cell? ⟨g, 5, none⟩ = some (.slice A2 n2 c2) ∧ w'.cell? ⟨g, 6, none⟩ = some (.bool (ngB E3)) ∧ w'.cell? ⟨g, 7, none⟩ = some (.slice A3 n3 c3) ∧ w'.cell? ⟨w.heap.size + 1, 0, none⟩ = some (.bool (ngB M)) ∧ w'.cell? ⟨w.heap.size + 1, 1, none⟩ = some (.slice Ao no_ co))
     (first | (with_reducible exact ⟨x_s.c0, x_s.c1, x_s.c2, x_s.c3, x_s.c4, x_s.c5, x_s.c6, x_s.c7, x_o.c0, x_o.c1⟩) | (with_reducible exact ⟨(x_s.aside (by omega)).c0, (x_s.aside (by omega)).c1, (x_s.aside (by omega)).c2, (x_s.aside (by omega)).c3, (x_s.aside (by omega)).c4, (x_s.aside (by omega)).c5, (x_s.aside (by omega)).c6, (x_s.aside (by omega)).c7, (x_o.aside (by omega)).c0, (x_o.aside (by omega)).c1⟩) | (with_reducible exact ⟨((x_s.aside (by omega)).aside (by omega)).c0, ((x_s.aside (by omega)).aside (by omega)).c1, ((x_s.aside (by omega)).aside (by omega)).c2, ((x_s.aside (by omega)).aside (by omega)).c3, ((x_s.aside (by omega)).aside (by omega)).c4, ((x_s.aside (by omega)).aside (by omega)).c5, ((x_s.aside (by omega)).aside (by omega)).c6, ((x_s.aside (by omega)).aside (by omega)).c7, ((x_o.aside (by omega)).aside (by omega)).c0, ((x_o.aside (by omega)).aside (by omega)).c1⟩) | go_keep)
     (first | (go_at_call 50; (with_reducible refine (RCmpZ_any e2.drw.zr zo.drw.zr 20000 (by omega) (by omega) (by omega)).mono ?_); rintro e v2 ⟨rfl, hb1⟩; replace hb1 := undrew hb1; replace x_r := x_r.keep hb1; replace x_s := x_s.keep hb1; replace x_o := x_o.keep hb1; replace zo := zo.keep hb1; replace e0 := e0.keep hb1; replace e1 := e1.keep hb1; replace e2 := e2.keep hb1; replace e3 := e3.keep hb1; replace hb := bthen hb hb1; clear hb1; clear q_s0 f_s0 q_s1 f_s1 q_s2 f_s2 q_s3 f_s3 q_s4 f_s4 q_s5 f_s5 q_s6 f_s6 q_s7 f_s7; obtain ⟨q_s0, f_s0, q_s1, f_s1, q_s2, f_s2, q_s3, f_s3, q_s4, f_s4, q_s5, f_s5, q_s6, f_s6, q_s7, f_s7⟩ := x_s.al; clear q_o0 f_o0 q_o1 f_o1; obtain ⟨q_o0, f_o0, q_o1, f_o1⟩ := x_o.al; rw [HC.out]))
    go_wp2
    replace x_r := x_r.aside (b' := (ngB E2)) (A' := A2) (n' := n2) (c' := c2) (g := w.heap.size + 1) (by omega)
    replace x_s := x_s.aside (b' := (ngB E2)) (A' := A2) (n' := n2) (c' := c2) (g := w.heap.size + 1) (by omega)
    replace zo := zo.put (b' := (ngB E2)) (A' := A2) (n' := n2) (c' := c2) x_o
    replace e0 := e0.put (b' := (ngB E2)) (A' := A2) (n' := n2) (c' := c2) x_o
    replace e1 := e1.put (b' := (ngB E2)) (A' := A2) (n' := n2) (c' := c2) x_o
    replace e2 := e2.put (b' := (ngB E2)) (A' := A2) (n' := n2) (c' := c2) x_o
    replace e3 := e3.put (b' := (ngB E2)) (A' := A2) (n' := n2) (c' := c2) x_o
    replace hb := put_below (g := w.heap.size + 1) hb (by omega) (.bool (ngB E2)) (.slice A2 n2 c2)
    replace x_o := x_o.put (ngB E2) A2 n2 c2
    clear q_s0 f_s0 q_s1 f_s1 q_s2 f_s2 q_s3 f_s3 q_s4 f_s4 q_s5 f_s5 q_s6 f_s6 q_s7 f_s7 q_o0 f_o0 q_o1 f_o1
    generalize (v2.setCell ⟨w.heap.size + 1, 0, none⟩ (.bool (ngB E2))).setCell ⟨w.heap.size + 1, 1, none⟩ (.slice A2 n2 c2) = v3 at *
    obtain ⟨q_s0, f_s0, q_s1, f_s1, q_s2, f_s2, q_s3, f_s3, q_s4, f_s4, q_s5, f_s5, q_s6, f_s6, q_s7, f_s7⟩ := x_s.al
    obtain ⟨q_o0, f_o0, q_o1, f_o1⟩ := x_o.al
    go_roundw
    case rel => exact ⟨3, by omega, by omega, by go_num, hb, x_r, _, _, _, by rw [HM1.out]; exact x_o, by rw [HM1.out]; exact e2⟩
    case measure => simp [intOf]
   ·have HM1 := Lib.hid m1; clear m1 i1 i2 hM2
    obtain ⟨q_s0, f_s0, q_s1, f_s1, q_s2, f_s2, q_s3, f_s3, q_s4, f_s4, q_s5, f_s5, q_s6, f_s6, q_s7, f_s7⟩ := x_s.al
    obtain ⟨q_o0, f_o0, q_o1, f_o1⟩ := x_o.al
    go_wp2_with fail
    go_region_held3 (fun w' => w'.cell? ⟨g, 0, none⟩ = some (.bool (ngB E0)) ∧ w'.cell? ⟨g, 1, none⟩ = some (.slice A0 n0 c0) ∧ w'.cell? ⟨g, 2, none⟩ = some (.bool (ngB E1)) ∧ w'.cell? ⟨g, 3, none⟩ = some (.slice A1 n1 c1) ∧ w'.cell? ⟨g, 4, none⟩ = some (.bool (ngB E2)) ∧ w'.cell? ⟨g, 5, none⟩ = some (.slice A2 n2 c2) ∧ w'.cell? ⟨g, 6, none⟩ = some (.bool (ngB E3)) ∧ w'.cell? ⟨g, 7, none⟩ = some (.slice A3 n3 c3) ∧ w'.cell? ⟨w.heap.size + 1, 0, none⟩ = some (.bool (ngB M)) ∧ w'.cell? ⟨w.heap.size + 1, 1, none⟩ = some (.slice Ao no_ co))
     (first | (with_reducible exact ⟨x_s.c0, x_s.c1, x_s.c2, x_s.c3, x_s.c4, x_s.c5, x_s.c6, x_s.c7, x_o.c0, x_o.c1⟩) | (with_reducible exact ⟨(x_s.aside (by omega)).c0, (x_s.aside (by omega)).c1, (x_s.aside (by omega)).c2, (x_s.aside (by omega)).c3, (x_s.aside (by omega)).c4, (x_s.aside (by omega)).c5, (x_s.aside (by omega)).c6, (x_s.aside (by omega)).c7, (x_o.aside (by omega)).c0, (x_o.aside (by omega)).c1⟩) | (with_reducible exact ⟨((x_s.aside (by omega)).aside (by omega)).c0, ((x_s.aside (by omega)).aside (by omega)).c1, ((x_s.aside (by omega)).aside (by omega)).c2, ((x_s.aside (by omega)).aside (by omega)).c3, ((x_s.aside (by omega)).aside (by omega)).c4, ((x_s.aside (by omega)).aside (by omega)).c5, ((x_s.aside (by omega)).aside (by omega)).c6, ((x_s.aside (by omega)).aside (by omega)).c7, ((x_o.aside (by omega)).aside (by omega)).c0, ((x_o.aside (by omega)).aside (by omega)).c1⟩) | go_keep)
     (first | (go_at_call 50; (with_reducible refine (RCmpZ_any e2.drw.zr zo.drw.zr 20000 (by omega) (by omega) (by omega)).mono ?_); rintro e v2 ⟨rfl, hb1⟩; replace hb1 := undrew hb1; replace x_r := x_r.keep hb1; replace x_s := x_s.keep hb1; replace x_o := x_o.keep hb1; replace zo := zo.keep hb1; replace e0 := e0.keep hb1; replace e1 := e1.keep hb1; replace e2 := e2.keep hb1; replace e3 := e3.keep hb1; replace hb := bthen hb hb1; clear hb1; clear q_s0 f_s0 q_s1 f_s1 q_s2 f_s2 q_s3 f_s3 q_s4 f_s4 q_s5 f_s5 q_s6 f_s6 q_s7 f_s7; obtain ⟨q_s0, f_s0, q_s1, f_s1, q_s2, f_s2, q_s3, f_s3, q_s4, f_s4, q_s5, f_s5, q_s6, f_s6, q_s7, f_s7⟩ := x_s.al; clear q_o0 f_o0 q_o1 f_o1; obtain ⟨q_o0, f_o0, q_o1, f_o1⟩ := x_o.al; rw [HC.out]))
    go_wp2
    go_roundw
    case rel => exact ⟨3, by omega, by omega, by go_num, hb, x_r, _, _, _, by rw [HM1.out]; exact x_o, by rw [HM1.out]; exact zo⟩
    case measure => simp [intOf]
  ·obtain ⟨M, hM⟩ : ∃ M, minK E0 E1 E2 E3 3 = M := ⟨_, rfl⟩
   rw [hM] at zo x_o
   have hM2 : minK E0 E1 E2 E3 4 = min M E3 := by rw [← hM]; rfl
   clear hM
   have i1 := sgnI_lt0 (X := E3 - M); have i2 := sgnI_gt0 (X := E3 - M)
   obtain ⟨C, hC⟩ : ∃ C, sgnI (E3 - M) = C := ⟨_, rfl⟩
   rw [hC] at i1 i2
   have HC := Lib.hid hC; clear hC
   rcases (show (C < 0 ∧ minK E0 E1 E2 E3 4 = E3) ∨ (0 ≤ C ∧ minK E0 E1 E2 E3 4 = M) by rw [hM2]; omega) with ⟨d1, m1⟩ | ⟨d1, m1⟩
   ·have HM1 := Lib.hid m1; clear m1 i1 i2 hM2
    obtain ⟨q_s0, f_s0, q_s1, f_s1, q_s2, f_s2, q_s3, f_s3, q_s4, f_s4, q_s5, f_s5, q_s6, f_s6, q_s7, f_s7⟩ := x_s.al
    obtain ⟨q_o0, f_o0, q_o1, f_o1⟩ := x_o.al
    go_wp2_with fail
    go_region_held3 (fun w' => w'.cell? ⟨g, 0, none⟩ = some (.bool (ngB E0)) ∧ w'.cell? ⟨g, 1, none⟩ = some (.slice A0 n0 c0) ∧ w'.cell? ⟨g, 2, none⟩ = some (.bool (ngB E1)) ∧ w'.cell? ⟨g, 3, none⟩ = some (.slice A1 n1 c1) ∧ w'.cell? ⟨g, 4, none⟩ = some (.bool (ngB E2)) ∧ w'.cell? ⟨g, 5, none⟩ = some (.slice A2 n2 c2) ∧ w'.cell? ⟨g, 6, none⟩ = some (.bool (ngB E3)) ∧ w'.cell? ⟨g, 7, none⟩ = some (.slice A3 n3 c3) ∧ w'.cell? ⟨w.heap.size + 1, 0, none⟩ = some (.bool (ngB M)) ∧ w'.cell? ⟨w.heap.size + 1, 1, none⟩ = some (.slice Ao no_ co))
     (first | (with_reducible exact ⟨x_s.c0, x_s.c1, x_s.c2, x_s.c3, x_s.c4, x_s.c5, x_s.c6, x_s.c7, x_o.c0, x_o.c1⟩) | (with_reducible exact ⟨(x_s.aside (by omega)).c0, (x_s.aside (by omega)).c1, (x_s.aside (by omega)).c2, (x_s.aside (by omega)).c3, (x_s.aside (by omega)).c4, (x_s.aside (by omega)).c5, (x_s.aside (by omega)).c6, (x_s.aside (by omega)).c7, (x_o.aside (by omega)).c0, (x_o.aside (by omega)).c1⟩) | (with_reducible exact ⟨((x_s.aside (by omega)).aside (by omega)).c0, ((x_s.aside (by omega)).aside (by omega)).c1, ((x_s.aside (by omega)).aside (by omega)).c2, ((x_s.aside (by omega)).aside (by omega)).c3, ((x_s.aside (by omega)).aside (by omega)).c4, ((x_s.aside (by omega)).aside (by omega)).c5, ((x_s.aside (by omega)).aside (by omega)).c6, ((x_s.aside (by omega)).aside (by omega)).c7, ((x_o.aside (by omega)).aside (by omega)).c0, ((x_o.aside (by omega)).aside (by omega)).c1⟩) | go_keep)
     (first | (go_at_call 50; (with_reducible refine (RCmpZ_any e3.drw.zr zo.drw.zr 20000 (by omega) (by omega) (by omega)).mono ?_); rintro e v2 ⟨rfl, hb1⟩; replace hb1 := undrew hb1; replace x_r := x_r.keep hb1; replace x_s := x_s.keep hb1; replace x_o := x_o.keep hb1; replace zo := zo.keep hb1; replace e0 := e0.keep hb1; replace e1 := e1.keep hb1; replace e2 := e2.keep hb1; replace e3 := e3.keep hb1; replace hb := bthen hb hb1; clear hb1; clear q_s0 f_s0 q_s1 f_s1 q_s2 f_s2 q_s3 f_s3 q_s4 f_s4 q_s5 f_s5 q_s6 f_s6 q_s7 f_s7; obtain ⟨q_s0, f_s0, q_s1, f_s1, q_s2, f_s2, q_s3, f_s3, q_s4, f_s4, q_s5, f_s5, q_s6, f_s6, q_s7, f_s7⟩ := x_s.al; clear q_o0 f_o0 q_o1 f_o1; obtain ⟨q_o0, f_o0, q_o1, f_o1⟩ := x_o.al; rw [HC.out]))
    go_wp2
    replace x_r := x_r.aside (b' := (ngB E3)) (A' := A3) (n' := n3) (c' := c3) (g := w.heap.size + 1) (by omega)
    replace x_s := x_s.aside (b' := (ngB E3)) (A' := A3) (n' := n3) (c' := c3) (g := w.heap.size + 1) (by omega)
    replace zo := zo.put (b' := (ngB E3)) (A' := A3) (n' := n3) (c' := c3) x_o
    replace e0 := e0.put (b' := (ngB E3)) (A' := A3) (n' := n3) (c' := c3) x_o
    replace e1 := e1.put (b' := (ngB E3)) (A' := A3) (n' := n3) (c' := c3) x_o
    replace e2 := e2.put (b' := (ngB E3)) (A' := A3) (n' := n3) (c' := c3) x_o
    replace e3 := e3.put (b' := (ngB E3)) (A' := A3) (n' := n3) (c' := c3) x_o
    replace hb := put_below (g := w.heap.size + 1) hb (by omega) (.bool (ngB E3)) (.slice A3 n3 c3)
    replace x_o := x_o.put (ngB E3) A3 n3 c3
    clear q_s0 f_s0 q_s1 f_s1 q_s2 f_s2 q_s3 f_s3 q_s4 f_s4 q_s5 f_s5 q_s6 f_s6 q_s7 f_s7 q_o0 f_o0 q_o1 f_o1
    generalize (v2.setCell ⟨w.heap.size + 1, 0, none⟩ (.bool (ngB E3))).setCell ⟨w.heap.size + 1, 1, none⟩ (.slice A3 n3 c3) = v3 at *
    obtain ⟨q_s0, f_s0, q_s1, f_s1, q_s2, f_s2, q_s3, f_s3, q_s4, f_s4, q_s5, f_s5, q_s6, f_s6, q_s7, f_s7⟩ := x_s.al
    obtain ⟨q_o0, f_o0, q_o1, f_o1⟩ := x_o.al
    go_roundw
    case rel => exact ⟨4, by omega, by omega, by go_num, hb, x_r, _, _, _, by rw [HM1.out]; exact x_o, by rw [HM1.out]; exact e3⟩
    case measure => simp [intOf]
   ·have HM1 := Lib.hid m1; clear m1 i1 i2 hM2
    obtain ⟨q_s0, f_s0, q_s1, f_s1, q_s2, f_s2, q_s3, f_s3, q_s4, f_s4, q_s5, f_s5, q_s6, f_s6, q_s7, f_s7⟩ := x_s.al
    obtain ⟨q_o0, f_o0, q_o1, f_o1⟩ := x_o.al
    go_wp2_with fail
    go_region_held3 (fun w' => w'.cell? ⟨g, 0, none⟩ = some (.bool (ngB E0)) ∧ w'.cell? ⟨g, 1, none⟩ = some (.slice A0 n0 c0) ∧ w'.cell? ⟨g, 2, none⟩ = some (.bool (ngB E1)) ∧ w'.cell? ⟨g, 3, none⟩ = some (.slice A1 n1 c1) ∧ w'.cell? ⟨g, 4, none⟩ = some (.bool (ngB E2)) ∧ w'.cell? ⟨g, 5, none⟩ = some (.slice A2 n2 c2) ∧ w'.cell? ⟨g, 6, none⟩ = some (.bool (ngB E3)) ∧ w'.cell? ⟨g, 7, none⟩ = some (.slice A3 n3 c3) ∧ w'.cell? ⟨w.heap.size + 1, 0, none⟩ = some (.bool (ngB M)) ∧ w'.cell? ⟨w.heap.size + 1, 1, none⟩ = some (.slice Ao no_ co))
     (first | (with_reducible exact ⟨x_s.c0, x_s.c1, x_s.c2, x_s.c3, x_s.c4, x_s.c5, x_s.c6, x_s.c7, x_o.c0, x_o.c1⟩) | (with_reducible exact ⟨(x_s.aside (by omega)).c0, (x_s.aside (by omega)).c1, (x_s.aside (by omega)).c2, (x_s.aside (by omega)).c3, (x_s.aside (by omega)).c4, (x_s.aside (by omega)).c5, (x_s.aside (by omega)).c6, (x_s.aside (by omega)).c7, (x_o.aside (by omega)).c0, (x_o.aside (by omega)).c1⟩) | (with_reducible exact ⟨((x_s.aside (by omega)).aside (by omega)).c0, ((x_s.aside (by omega)).aside (by omega)).c1, ((x_s.aside (by omega)).aside (by omega)).c2, ((x_s.aside (by omega)).aside (by omega)).c3, ((x_s.aside (by omega)).aside (by omega)).c4, ((x_s.aside (by omega)).aside (by omega)).c5, ((x_s.aside (by omega)).aside (by omega)).c6, ((x_s.aside (by omega)).aside (by omega)).c7, ((x_o.aside (by omega)).aside (by omega)).c0, ((x_o.aside (by omega)).aside (by omega)).c1⟩) | go_keep)
     (first | (go_at_call 50; (with_reducible refine (RCmpZ_any e3.drw.zr zo.drw.zr 20000 (by omega) (by omega) (by omega)).mono ?_); rintro e v2 ⟨rfl, hb1⟩; replace hb1 := undrew hb1; replace x_r := x_r.keep hb1; replace x_s := x_s.keep hb1; replace x_o := x_o.keep hb1; replace zo := zo.keep hb1; replace e0 := e0.keep hb1; replace e1 := e1.keep hb1; replace e2 := e2.keep hb1; replace e3 := e3.keep hb1; replace hb := bthen hb hb1; clear hb1; clear q_s0 f_s0 q_s1 f_s1 q_s2 f_s2 q_s3 f_s3 q_s4 f_s4 q_s5 f_s5 q_s6 f_s6 q_s7 f_s7; obtain ⟨q_s0, f_s0, q_s1, f_s1, q_s2, f_s2, q_s3, f_s3, q_s4, f_s4, q_s5, f_s5, q_s6, f_s6, q_s7, f_s7⟩ := x_s.al; clear q_o0 f_o0 q_o1 f_o1; obtain ⟨q_o0, f_o0, q_o1, f_o1⟩ := x_o.al; rw [HC.out]))
    go_wp2
    go_roundw
    case rel => exact ⟨4, by omega, by omega, by go_num, hb, x_r, _, _, _, by rw [HM1.out]; exact x_o, by rw [HM1.out]; exact zo⟩
    case measure => simp [intOf]
  ·have hm : minK E0 E1 E2 E3 4 = M0 := HM0.out
   rw [hm] at zo x_o
   clear hm
   obtain ⟨q_r0, f_r0, q_r1, f_r1⟩ := x_r.al
   obtain ⟨q_o0, f_o0, q_o1, f_o1⟩ := x_o.al
   go_wp2
   replace x_s := x_s.aside (b' := (ngB M0)) (A' := Ao) (n' := no_) (c' := co) (g := w.heap.size) (by omega)
   replace x_o := x_o.aside (b' := (ngB M0)) (A' := Ao) (n' := no_) (c' := co) (g := w.heap.size) (by omega)
   replace zo := zo.put (b' := (ngB M0)) (A' := Ao) (n' := no_) (c' := co) x_r
   replace e0 := e0.put (b' := (ngB M0)) (A' := Ao) (n' := no_) (c' := co) x_r
   replace e1 := e1.put (b' := (ngB M0)) (A' := Ao) (n' := no_) (c' := co) x_r
   replace e2 := e2.put (b' := (ngB M0)) (A' := Ao) (n' := no_) (c' := co) x_r
   replace e3 := e3.put (b' := (ngB M0)) (A' := Ao) (n' := no_) (c' := co) x_r
   replace hb := put_below (g := w.heap.size) hb (by omega) (.bool (ngB M0)) (.slice Ao no_ co)
   replace x_r := x_r.put (ngB M0) Ao no_ co
   clear q_r0 f_r0 q_r1 f_r1 q_o0 f_o0 q_o1 f_o1
   generalize (wr.setCell ⟨w.heap.size, 0, none⟩ (.bool (ngB M0))).setCell ⟨w.heap.size, 1, none⟩ (.slice Ao no_ co) = v2 at *
   obtain ⟨q_r0, f_r0, q_r1, f_r1⟩ := x_r.al
   obtain ⟨q_o0, f_o0, q_o1, f_o1⟩ := x_o.al
   skip
   refine bodyPost_ret (v := .agg #[.bool (ngB M0), .slice Ao no_ co]) (by simp [results, Tryz.results63, go_sem, q_r0, q_r1]) rfl ?_
   exact ⟨_, _, _, rfl, zo, hb⟩

set_option maxRecDepth 100000 in
set_option maxHeartbeats 8000000 in
theorem greatest4_any {A0 : Option Addr} {n0 c0 : Nat} {E0 : Int} {A1 : Option Addr} {n1 c1 : Nat} {E1 : Int} {A2 : Option Addr} {n2 c2 : Nat} {E2 : Int} {A3 : Option Addr} {n3 c3 : Nat} {E3 : Int} {g cp K : Nat} {w : World} (x_s : S4x w g (ngB E0) A0 n0 c0 (ngB E1) A1 n1 c1 (ngB E2) A2 n2 c2 (ngB E3) A3 n3 c3) (e0 : Zn w A0 n0 c0 E0 K) (e1 : Zn w A1 n1 c1 E1 K) (e2 : Zn w A2 n2 c2 E2 K) (e3 : Zn w A3 n3 c3 E3 K) (hK : K ≤ 10000) :
  Calls Tryz.prog 64 #[.slice (some ⟨g, 0, none⟩) 4 cp] w (OutZ w (max (max (max E0 E1) (E2)) (E3)) K) := by
 have hgl := x_s.lt
 have HX := Lib.hid x_s; have HE0 := Lib.hid e0; have HE1 := Lib.hid e1; have HE2 := Lib.hid e2; have HE3 := Lib.hid e3
 obtain ⟨M0, hM0⟩ : ∃ M, max (max (max E0 E1) (E2)) (E3) = M := ⟨_, rfl⟩
 rw [hM0]
 have HM0 := Lib.hid hM0; clear hM0
 obtain ⟨q_s0, f_s0, q_s1, f_s1, q_s2, f_s2, q_s3, f_s3, q_s4, f_s4, q_s5, f_s5, q_s6, f_s6, q_s7, f_s7⟩ := x_s.al
 have yy := (x_s.alloc (.cells #[.bool false, .slice none 0 0] 24)).al
 obtain ⟨qy0, fy0, qy1, fy1, qy2, fy2, qy3, fy3, qy4, fy4, qy5, fy5, qy6, fy6, qy7, fy7⟩ := yy
 go_enter Tryz.func64, Tryz.ntmps64
 go_wp2_with fail
 clear q_s0 f_s0 qy0 fy0 q_s1 f_s1 qy1 fy1 q_s2 f_s2 qy2 fy2 q_s3 f_s3 qy3 fy3 q_s4 f_s4 qy4 fy4 q_s5 f_s5 qy5 fy5 q_s6 f_s6 qy6 fy6 q_s7 f_s7 qy7 fy7
 have x_r : Bx (w.alloc (.cells #[.bool false, .slice none 0 0] 24)) (w.heap.size) false none 0 0 := by have := Bx.new w false none 0 0; simpa using this
 replace x_r := x_r.alloc (.cells #[.bool (ngB E0), .slice A0 n0 c0] 24)
 have x_o : Bx ((w.alloc (.cells #[.bool false, .slice none 0 0] 24)).alloc (.cells #[.bool (ngB E0), .slice A0 n0 c0] 24)) (w.heap.size + 1) (ngB E0) A0 n0 c0 := by have := Bx.new (w.alloc (.cells #[.bool false, .slice none 0 0] 24)) (ngB E0) A0 n0 c0; simpa using this
 have hb : Below w.heap.size w ((w.alloc (.cells #[.bool false, .slice none 0 0] 24)).alloc (.cells #[.bool (ngB E0), .slice A0 n0 c0] 24)) := (Below.alloc (Below.alloc (Below.refl w.heap.size w) (by simp) (.cells #[.bool false, .slice none 0 0] 24)) (by simp) (.cells #[.bool (ngB E0), .slice A0 n0 c0] 24))
 generalize (w.alloc (.cells #[.bool false, .slice none 0 0] 24)).alloc (.cells #[.bool (ngB E0), .slice A0 n0 c0] 24) = v1 at *
 replace x_s := x_s.keep hb
 replace e0 := e0.keep hb
 replace e1 := e1.keep hb
 replace e2 := e2.keep hb
 replace e3 := e3.keep hb
 obtain ⟨q_r0, f_r0, q_r1, f_r1⟩ := x_r.al
 obtain ⟨q_o0, f_o0, q_o1, f_o1⟩ := x_o.al
 have hrel0 : LsRel w (maxK E0 E1 E2 E3 1) K v1 := ⟨hb, x_r, _, _, _, x_o, e0⟩
 clear hb x_r x_o x_s e0 e1 e2 e3
 clear q_r0 f_r0 q_r1 f_r1 q_o0 f_o0 q_o1 f_o1
 go_loopw [4] (fun iv wr => ∃ k : Nat, 1 ≤ k ∧ k ≤ 4 ∧ iv = .int .i64 k ∧ LsRel w (maxK E0 E1 E2 E3 k) K wr) (fun iv _ => 4 - (intOf iv).toNat)
 case atStart => exact ⟨1, by omega, by omega, rfl, hrel0⟩
 case round =>
  clear hrel0
  obtain ⟨k, hk1, hk, rfl, hb, x_r, Ao, no_, co, x_o, zo⟩ := hrel
  have x_s := HX.out.keep hb; have e0 := HE0.out.keep hb; have e1 := HE1.out.keep hb; have e2 := HE2.out.keep hb; have e3 := HE3.out.keep hb
  rcases (show k = 1 ∨ k = 2 ∨ k = 3 ∨ k = 4 by omega) with rfl | rfl | rfl | rfl
  ·obtain ⟨M, hM⟩ : ∃ M, maxK E0 E1 E2 E3 1 = M := ⟨_, rfl⟩
   rw [hM] at zo x_o
   have hM2 : maxK E0 E1 E2 E3 2 = max M E1 := by rw [← hM]; rfl
   clear hM
   have i1 := sgnI_lt0 (X := E1 - M); have i2 := sgnI_gt0 (X := E1 - M)
   obtain ⟨C, hC⟩ : ∃ C, sgnI (E1 - M) = C := ⟨_, rfl⟩
   rw [hC] at i1 i2
   have HC := Lib.hid hC; clear hC
   rcases (show (0 < C ∧ maxK E0 E1 E2 E3 2 = E1) ∨ (C ≤ 0 ∧ maxK E0 E1 E2 E3 2 = M) by rw [hM2]; omega) with ⟨d1, m1⟩ | ⟨d1, m1⟩
   ·have HM1 := Lib.hid m1; clear m1 i1 i2 hM2
    obtain ⟨q_s0, f_s0, q_s1, f_s1, q_s2, f_s2, q_s3, f_s3, q_s4, f_s4, q_s5, f_s5, q_s6, f_s6, q_s7, f_s7⟩ := x_s.al
    obtain ⟨q_o0, f_o0, q_o1, f_o1⟩ := x_o.al
    go_wp2_with fail
    go_region_held3 (fun w' => w'.cell? ⟨g, 0, none⟩ = some (.bool (ngB E0)) ∧ w'.cell? ⟨g, 1, none⟩ = some (.slice A0 n0 c0) ∧ w'.cell? ⟨g, 2, none⟩ = some (.bool (ngB E1)) ∧ w'.cell? ⟨g, 3, none⟩ = some (.slice A1 n1 c1) ∧ w'.cell? ⟨g, 4, none⟩ = some (.bool (ngB E2)) ∧ w'.cell? ⟨g, 5, none⟩ = some (.slice A2 n2 c2) ∧ w'.cell? ⟨g, 6, none⟩ = some (.bool (ngB E3)) ∧ w'.cell? ⟨g, 7, none⟩ = some (.slice A3 n3 c3) ∧ w'.cell? ⟨w.heap.size + 1, 0, none⟩ = some (.bool (ngB M)) ∧ w'.cell? ⟨w.heap.size + 1, 1, none⟩ = some (.slice Ao no_ co))
     (first | (with_reducible exact ⟨x_s.c0, x_s.c1, x_s.c2, x_s.c3, x_s.c4, x_s.c5, x_s.c6, x_s.c7, x_o.c0, x_o.c1⟩) | (with_reducible exact ⟨(x_s.aside (by omega)).c0, (x_s.aside (by omega)).c1, (x_s.aside (by omega)).c2, (x_s.aside (by omega)).c3, (x_s.aside (by omega)).c4, (x_s.aside (by omega)).c5, (x_s.aside (by omega)).c6, (x_s.aside (by omega)).c7, (x_o.aside (by omega)).c0, (x_o.aside (by omega)).c1⟩) | (with_reducible exact ⟨((x_s.aside (by omega)).aside (by omega)).c0, ((x_s.aside (by omega)).aside (by omega)).c1, ((x_s.aside (by omega)).aside (by omega)).c2, ((x_s.aside (by omega)).aside (by omega)).c3, ((x_s.aside (by omega)).aside (by omega)).c4, ((x_s.aside (by omega)).aside (by omega)).c5, ((x_s.aside (by omega)).aside (by omega)).c6, ((x_s.aside (by omega)).aside (by omega)).c7, ((x_o.aside (by omega)).aside (by omega)).c0, ((x_o.aside (by omega)).aside (by omega)).c1⟩) | go_keep)
     (first | (go_at_call 50; (with_reducible refine (RCmpZ_any e1.drw.zr zo.drw.zr 20000 (by omega) (by omega) (by omega)).mono ?_); rintro e v2 ⟨rfl, hb1⟩; replace hb1 := undrew hb1; replace x_r := x_r.keep hb1; replace x_s := x_s.keep hb1; replace x_o := x_o.keep hb1; replace zo := zo.keep hb1; replace e0 := e0.keep hb1; replace e1 := e1.keep hb1; replace e2 := e2.keep hb1; replace e3 := e3.keep hb1; replace hb := bthen hb hb1; clear hb1; clear q_s0 f_s0 q_s1 f_s1 q_s2 f_s2 q_s3 f_s3 q_s4 f_s4 q_s5 f_s5 q_s6 f_s6 q_s7 f_s7; obtain ⟨q_s0, f_s0, q_s1, f_s1, q_s2, f_s2, q_s3, f_s3, q_s4, f_s4, q_s5, f_s5, q_s6, f_s6, q_s7, f_s7⟩ := x_s.al; clear q_o0 f_o0 q_o1 f_o1; obtain ⟨q_o0, f_o0, q_o1, f_o1⟩ := x_o.al; rw [HC.out]))
    go_wp2
    replace x_r := x_r.aside (b' := (ngB E1)) (A' := A1) (n' := n1) (c' := c1) (g := w.heap.size + 1) (by omega)
    replace x_s := x_s.aside (b' := (ngB E1)) (A' := A1) (n' := n1) (c' := c1) (g := w.heap.size + 1) (by omega)
    replace zo := zo.put (b' := (ngB E1)) (A' := A1) (n' := n1) (c' := c1) x_o
    replace e0 := e0.put (b' := (ngB E1)) (A' := A1) (n' := n1) (c' := c1) x_o
    replace e1 := e1.put (b' := (ngB E1)) (A' := A1) (n' := n1) (c' := c1) x_o
    replace e2 := e2.put (b' := (ngB E1)) (A' := A1) (n' := n1) (c' := c1) x_o
    replace e3 := e3.put (b' := (ngB E1)) (A' := A1) (n' := n1) (c' := c1) x_o
    replace hb := put_below (g := w.heap.size + 1) hb (by omega) (.bool (ngB E1)) (.slice A1 n1 c1)
    replace x_o := x_o.put (ngB E1) A1 n1 c1
    clear q_s0 f_s0 q_s1 f_s1 q_s2 f_s2 q_s3 f_s3 q_s4 f_s4 q_s5 f_s5 q_s6 f_s6 q_s7 f_s7 q_o0 f_o0 q_o1 f_o1
    generalize (v2.setCell ⟨w.heap.size + 1, 0, none⟩ (.bool (ngB E1))).setCell ⟨w.heap.size + 1, 1, none⟩ (.slice A1 n1 c1) = v3 at *
    obtain ⟨q_s0, f_s0, q_s1, f_s1, q_s2, f_s2, q_s3, f_s3, q_s4, f_s4, q_s5, f_s5, q_s6, f_s6, q_s7, f_s7⟩ := x_s.al
    obtain ⟨q_o0, f_o0, q_o1, f_o1⟩ := x_o.al
    go_roundw
    case rel => exact ⟨2, by omega, by omega, by go_num, hb, x_r, _, _, _, by rw [HM1.out]; exact x_o, by rw [HM1.out]; exact e1⟩
    case measure => simp [intOf]
   ·have HM1 := Lib.hid m1; clear m1 i1 i2 hM2
    obtain ⟨q_s0, f_s0, q_s1, f_s1, q_s2, f_s2, q_s3, f_s3, q_s4, f_s4, q_s5, f_s5, q_s6, f_s6, q_s7, f_s7⟩ := x_s.al
    obtain ⟨q_o0, f_o0, q_o1, f_o1⟩ := x_o.al
    go_wp2_with fail
    go_region_held3 (fun w' => w'.cell? ⟨g, 0, none⟩ = some (.bool (ngB E0)) ∧ w'.cell? ⟨g, 1, none⟩ = some (.slice A0 n0 c0) ∧ w'.cell? ⟨g, 2, none⟩ = some (.bool (ngB E1)) ∧ w'.cell? ⟨g, 3, none⟩ = some (.slice A1 n1 c1) ∧ w'.cell? ⟨g, 4, none⟩ = some (.bool (ngB E2)) ∧ w'.cell? ⟨g, 5, none⟩ = some (.slice A2 n2 c2) ∧ w'.cell? ⟨g, 6, none⟩ = some (.bool (ngB E3)) ∧ w'.cell? ⟨g, 7, none⟩ = some (.slice A3 n3 c3) ∧ w'.cell? ⟨w.heap.size + 1, 0, none⟩ = some (.bool (ngB M)) ∧ w'.cell? ⟨w.heap.size + 1, 1, none⟩ = some (.slice Ao no_ co))
     (first | (with_reducible exact ⟨x_s.c0, x_s.c1, x_s.c2, x_s.c3, x_s.c4, x_s.c5, x_s.c6, x_s.c7, x_o.c0, x_o.c1⟩) | (with_reducible exact ⟨(x_s.aside (by omega)).c0, (x_s.aside (by omega)).c1, (x_s.aside (by omega)).c2, (x_s.aside (by omega)).c3, (x_s.aside (by omega)).c4, (x_s.aside (by omega)).c5, (x_s.aside (by omega)).c6, (x_s.aside (by omega)).c7, (x_o.aside (by omega)).c0, (x_o.aside (by omega)).c1⟩) | (with_reducible exact ⟨((x_s.aside (by omega)).aside (by omega)).c0, ((x_s.aside (by omega)).aside (by omega)).c1, ((x_s.aside (by omega)).aside (by omega)).c2, ((x_s.aside (by omega)).aside (by omega)).c3, ((x_s.aside (by omega)).aside (by omega)).c4, ((x_s.aside (by omega)).aside (by omega)).c5, ((x_s.aside (by omega)).aside (by omega)).c6, ((x_s.aside (by omega)).aside (by omega)).c7, ((x_o.aside (by omega)).aside (by omega)).c0, ((x_o.aside (by omega)).aside (by omega)).c1⟩) | go_keep)
     (first | (go_at_call 50; (with_reducible refine (RCmpZ_any e1.drw.zr zo.drw.zr 20000 (by omega) (by omega) (by omega)).mono ?_); rintro e v2 ⟨rfl, hb1⟩; replace hb1 := undrew hb1; replace x_r := x_r.keep hb1; replace x_s := x_s.keep hb1; replace x_o := x_o.keep hb1; replace zo := zo.keep hb1; replace e0 := e0.keep hb1; replace e1 := e1.keep hb1; replace e2 := e2.keep hb1; replace e3 := e3.keep hb1; replace hb := bthen hb hb1; clear hb1; clear q_s0 f_s0 q_s1 f_s1 q_s2 f_s2 q_s3 f_s3 q_s4 f_s4 q_s5 f_s5 q_s6 f_s6 q_s7 f_s7; obtain ⟨q_s0, f_s0, q_s1, f_s1, q_s2, f_s2, q_s3, f_s3, q_s4, f_s4, q_s5, f_s5, q_s6, f_s6, q_s7, f_s7⟩ := x_s.al; clear q_o0 f_o0 q_o1 f_o1; obtain ⟨q_o0, f_o0, q_o1, f_o1⟩ := x_o.al; rw [HC.out]))
    go_wp2
    go_roundw
    case rel => exact ⟨2, by omega, by omega, by go_num, hb, x_r, _, _, _, by rw [HM1.out]; exact x_o, by rw [HM1.out]; exact zo⟩
    case measure => simp [intOf]
  ·obtain ⟨M, hM⟩ : ∃ M, maxK E0 E1 E2 E3 2 = M := ⟨_, rfl⟩
   rw [hM] at zo x_o
   have hM2 : maxK E0 E1 E2 E3 3 = max M E2 := by rw [← hM]; rfl
   clear hM
   have i1 := sgnI_lt0 (X := E2 - M); have i2 := sgnI_gt0 (X := E2 - M)
   obtain ⟨C, hC⟩ : ∃ C, sgnI (E2 - M) = C := ⟨_, rfl⟩
   rw [hC] at i1 i2
   have HC := Lib.hid hC; clear hC
   rcases (show (0 < C ∧ maxK E0 E1 E2 E3 3 = E2) ∨ (C ≤ 0 ∧ maxK E0 E1 E2 E3 3 = M) by rw [hM2]; omega) with ⟨d1, m1⟩ | ⟨d1, m1⟩
   ·have HM1 := Lib.hid m1; clear m1 i1 i2 hM2
    obtain ⟨q_s0, f_s0, q_s1, f_s1, q_s2, f_s2, q_s3, f_s3, q_s4, f_s4, q_s5, f_s5, q_s6, f_s6, q_s7, f_s7⟩ := x_s.al
    obtain ⟨q_o0, f_o0, q_o1, f_o1⟩ := x_o.al
    go_wp2_with fail
    go_region_held3 (fun w' => w'.cell? ⟨g, 0, none⟩ = some (.bool (ngB E0)) ∧ w'.cell? ⟨g, 1, none⟩ = some (.slice A0 n0 c0) ∧ w'.cell? ⟨g, 2, none⟩ = some (.bool (ngB E1)) ∧ w'.cell? ⟨g, 3, none⟩ = some (.slice A1 n1 c1) ∧ w'.cell? ⟨g, 4, none⟩ = some (.bool (ngB E2)) ∧ w'.cell? ⟨g, 5, none⟩ = some (.slice A2 n2 c2) ∧ w'.cell? ⟨g, 6, none⟩ = some (.bool (ngB E3)) ∧ w'.cell? ⟨g, 7, none⟩ = some (.slice A3 n3 c3) ∧ w'.cell? ⟨w.heap.size + 1, 0, none⟩ = some (.bool (ngB M)) ∧ w'.cell? ⟨w.heap.size + 1, 1, none⟩ = some (.slice Ao no_ co))
     (first | (with_reducible exact ⟨x_s.c0, x_s.c1, x_s.c2, x_s.c3, x_s.c4, x_s.c5, x_s.c6, x_s.c7, x_o.c0, x_o.c1⟩) | (with_reducible exact ⟨(x_s.aside (by omega)).c0, (x_s.aside (by omega)).c1, (x_s.aside (by omega)).c2, (x_s.aside (by omega)).c3, (x_s.aside (by omega)).c4, (x_s.aside (by omega)).c5, (x_s.aside (by omega)).c6, (x_s.aside (by omega)).c7, (x_o.aside (by omega)).c0, (x_o.aside (by omega)).c1⟩) | (with_reducible exact ⟨((x_s.aside (by omega)).aside (by omega)).c0, ((x_s.aside (by omega)).aside (by omega)).c1, ((x_s.aside (by omega)).aside (by omega)).c2, ((x_s.aside (by omega)).aside (by omega)).c3, ((x_s.aside (by omega)).aside (by omega)).c4, ((x_s.aside (by omega)).aside (by omega)).c5, ((x_s.aside (by omega)).aside (by omega)).c6, ((x_s.aside (by omega)).aside (by omega)).c7, ((x_o.aside (by omega)).aside (by omega)).c0, ((x_o.aside (by omega)).aside (by omega)).c1⟩) | go_keep)
     (first | (go_at_call 50; (with_reducible refine (RCmpZ_any e2.drw.zr zo.drw.zr 20000 (by omega) (by omega) (by omega)).mono ?_); rintro e v2 ⟨rfl, hb1⟩; replace hb1 := undrew hb1; replace x_r := x_r.keep hb1; replace x_s := x_s.keep hb1; replace x_o := x_o.keep hb1; replace zo := zo.keep hb1; replace e0 := e0.keep hb1; replace e1 := e1.keep hb1; replace e2 := e2.keep hb1; replace e3 := e3.keep hb1; replace hb := bthen hb hb1; clear hb1; clear q_s0 f_s0 q_s1 f_s1 q_s2 f_s2 q_s3 f_s3 q_s4 f_s4 q_s5 f_s5 q_s6 f_s6 q_s7 f_s7; obtain ⟨q_s0, f_s0, q_s1, f_s1, q_s2, f_s2, q_s3, f_s3, q_s4, f_s4, q_s5, f_s5, q_s6, f_s6, q_s7, f_s7⟩ := x_s.al; clear q_o0 f_o0 q_o1 f_o1; obtain ⟨q_o0, f_o0, q_o1, f_o1⟩ := x_o.al; rw [HC.out]))
    go_wp2
    replace x_r := x_r.aside (b' := (ngB E2)) (A' := A2) (n' := n2) (c' := c2) (g := w.heap.size + 1) (by omega)
    replace x_s := x_s.aside (b' := (ngB E2)) (A' := A2) (n' := n2) (c' := c2) (g := w.heap.size + 1) (by omega)
    replace zo := zo.put (b' := (ngB E2)) (A' := A2) (n' := n2) (c' := c2) x_o
    replace e0 := e0.put (b' := (ngB E2)) (A' := A2) (n' := n2) (c' := c2) x_o
    replace e1 := e1.put (b' := (ngB E2)) (A' := A2) (n' := n2) (c' := c2) x_o
    replace e2 := e2.put (b' := (ngB E2)) (A' := A2) (n' := n2) (c' := c2) x_o
    replace e3 := e3.put (b' := (ngB E2)) (A' := A2) (n' := n2) (c' := c2) x_o
    replace hb := put_below (g := w.heap.size + 1) hb (by omega) (.bool (ngB E2)) (.slice A2 n2 c2)
    replace x_o := x_o.put (ngB E2) A2 n2 c2
    clear q_s0 f_s0 q_s1 f_s1 q_s2 f_s2 q_s3 f_s3 q_s4 f_s4 q_s5 f_s5 q_s6 f_s6 q_s7 f_s7 q_o0 f_o0 q_o1 f_o1
    generalize (v2.setCell ⟨w.heap.size + 1, 0, none⟩ (.bool (ngB E2))).setCell ⟨w.heap.size + 1, 1, none⟩ (.slice A2 n2 c2) = v3 at *
    obtain ⟨q_s0, f_s0, q_s1, f_s1, q_s2, f_s2, q_s3, f_s3, q_s4, f_s4, q_s5, f_s5, q_s6, f_s6, q_s7, f_s7⟩ := x_s.al
    obtain ⟨q_o0, f_o0, q_o1, f_o1⟩ := x_o.al
    go_roundw
    case rel => exact ⟨3, by omega, by omega, by go_num, hb, x_r, _, _, _, by rw [HM1.out]; exact x_o, by rw [HM1.out]; exact e2⟩
    case measure => simp [intOf]
   ·have HM1 := Lib.hid m1; clear m1 i1 i2 hM2
    obtain ⟨q_s0, f_s0, q_s1, f_s1, q_s2, f_s2, q_s3, f_s3, q_s4, f_s4, q_s5, f_s5, q_s6, f_s6, q_s7, f_s7⟩ := x_s.al
    obtain ⟨q_o0, f_o0, q_o1, f_o1⟩ := x_o.al
    go_wp2_with fail
    go_region_held3 (fun w' => w'.cell? ⟨g, 0, none⟩ = some (.bool (ngB E0)) ∧ w'.cell? ⟨g, 1, none⟩ = some (.slice A0 n0 c0) ∧ w'.cell? ⟨g, 2, none⟩ = some (.bool (ngB E1)) ∧ w'.cell? ⟨g, 3, none⟩ = some (.slice A1 n1 c1) ∧ w'.cell? ⟨g, 4, none⟩ = some (.bool (ngB E2)) ∧ w'.cell? ⟨g, 5, none⟩ = some (.slice A2 n2 c2) ∧ w'.cell? ⟨g, 6, none⟩ = some (.bool (ngB E3)) ∧ w'.cell? ⟨g, 7, none⟩ = some (.slice A3 n3 c3) ∧ w'.cell? ⟨w.heap.size + 1, 0, none⟩ = some (.bool (ngB M)) ∧ w'.cell? ⟨w.heap.size + 1, 1, none⟩ = some (.slice Ao no_ co))
     (first | (with_reducible exact ⟨x_s.c0, x_s.c1, x_s.c2, x_s.c3, x_s.c4, x_s.c5, x_s.c6, x_s.c7, x_o.c0, x_o.c1⟩) | (with_reducible exact ⟨(x_s.aside (by omega)).c0, (x_s.aside (by omega)).c1, (x_s.aside (by omega)).c2, (x_s.aside (by omega)).c3, (x_s.aside (by omega)).c4, (x_s.aside (by omega)).c5, (x_s.aside (by omega)).c6, (x_s.aside (by omega)).c7, (x_o.aside (by omega)).c0, (x_o.aside (by omega)).c1⟩) | (with_reducible exact ⟨((x_s.aside (by omega)).aside (by omega)).c0, ((x_s.aside (by omega)).aside (by omega)).c1, ((x_s.aside (by omega)).aside (by omega)).c2, ((x_s.aside (by omega)).aside (by omega)).c3, ((x_s.aside (by omega)).aside (by omega)).c4, ((x_s.aside (by omega)).aside (by omega)).c5, ((x_s.aside (by omega)).aside (by omega)).c6, ((x_s.aside (by omega)).aside (by omega)).c7, ((x_o.aside (by omega)).aside (by omega)).c0, ((x_o.aside (by omega)).aside (by omega)).c1⟩) | go_keep)
     (first | (go_at_call 50; (with_reducible refine (RCmpZ_any e2.drw.zr zo.drw.zr 20000 (by omega) (by omega) (by omega)).mono ?_); rintro e v2 ⟨rfl, hb1⟩; replace hb1 := undrew hb1; replace x_r := x_r.keep hb1; replace x_s := x_s.keep hb1; replace x_o := x_o.keep hb1; replace zo := zo.keep hb1; replace e0 := e0.keep hb1; replace e1 := e1.keep hb1; replace e2 := e2.keep hb1; replace e3 := e3.keep hb1; replace hb := bthen hb hb1; clear hb1; clear q_s0 f_s0 q_s1 f_s1 q_s2 f_s2 q_s3 f_s3 q_s4 f_s4 q_s5 f_s5 q_s6 f_s6 q_s7 f_s7; obtain ⟨q_s0, f_s0, q_s1, f_s1, q_s2, f_s2, q_s3, f_s3, q_s4, f_s4, q_s5, f_s5, q_s6, f_s6, q_s7, f_s7⟩ := x_s.al; clear q_o0 f_o0 q_o1 f_o1; obtain ⟨q_o0, f_o0, q_o1, f_o1⟩ := x_o.al; rw [HC.out]))
    go_wp2
    go_roundw
    case rel => exact ⟨3, by omega, by omega, by go_num, hb, x_r, _, _, _, by rw [HM1.out]; exact x_o, by rw [HM1.out]; exact zo⟩
    case measure => simp [intOf]
  ·obtain ⟨M, hM⟩ : ∃ M, maxK E0 E1 E2 E3 3 = M := ⟨_, rfl⟩
   rw [hM] at zo x_o
   have hM2 : maxK E0 E1 E2 E3 4 = max M E3 := by rw [← hM]; rfl
   clear hM
   have i1 := sgnI_lt0 (X := E3 - M); have i2 := sgnI_gt0 (X := E3 - M)
   obtain ⟨C, hC⟩ : ∃ C, sgnI (E3 - M) = C := ⟨_, rfl⟩
   rw [hC] at i1 i2
   have HC := Lib.hid hC; clear hC
   rcases (show (0 < C ∧ maxK E0 E1 E2 E3 4 = E3) ∨ (C ≤ 0 ∧ maxK E0 E1 E2 E3 4 = M) by rw [hM2]; omega) with ⟨d1, m1⟩ | ⟨d1, m1⟩
   ·have HM1 := Lib.hid m1; clear m1 i1 i2 hM2
    obtain ⟨q_s0, f_s0, q_s1, f_s1, q_s2, f_s2, q_s3, f_s3, q_s4, f_s4, q_s5, f_s5, q_s6, f_s6, q_s7, f_s7⟩ := x_s.al
    obtain ⟨q_o0, f_o0, q_o1, f_o1⟩ := x_o.al
    go_wp2_with fail
    go_region_held3 (fun w' => w'.cell? ⟨g, 0, none⟩ = some (.bool (ngB E0)) ∧ w'.cell? ⟨g, 1, none⟩ = some (.slice A0 n0 c0) ∧ w'.cell? ⟨g, 2, none⟩ = some (.bool (ngB E1)) ∧ w'.cell? ⟨g, 3, none⟩ = some (.slice A1 n1 c1) ∧ w'.cell? ⟨g, 4, none⟩ = some (.bool (ngB E2)) ∧ w'.cell? ⟨g, 5, none⟩ = some (.slice A2 n2 c2) ∧ w'.cell? ⟨g, 6, none⟩ = some (.bool (ngB E3)) ∧ w'.cell? ⟨g, 7, none⟩ = some (.slice A3 n3 c3) ∧ w'.cell? ⟨w.heap.size + 1, 0, none⟩ = some (.bool (ngB M)) ∧ w'.cell? ⟨w.heap.size + 1, 1, none⟩ = some (.slice Ao no_ co))
     (first | (with_reducible exact ⟨x_s.c0, x_s.c1, x_s.c2, x_s.c3, x_s.c4, x_s.c5, x_s.c6, x_s.c7, x_o.c0, x_o.c1⟩) | (with_reducible exact ⟨(x_s.aside (by omega)).c0, (x_s.aside (by omega)).c1, (x_s.aside (by omega)).c2, (x_s.aside (by omega)).c3, (x_s.aside (by omega)).c4, (x_s.aside (by omega)).c5, (x_s.aside (by omega)).c6, (x_s.aside (by omega)).c7, (x_o.aside (by omega)).c0, (x_o.aside (by omega)).c1⟩) | (with_reducible exact ⟨((x_s.aside (by omega)).aside (by omega)).c0, ((x_s.aside (by omega)).aside (by omega)).c1, ((x_s.aside (by omega)).aside (by omega)).c2, ((x_s.aside (by omega)).aside (by omega)).c3, ((x_s.aside (by omega)).aside (by omega)).c4, ((x_s.aside (by omega)).aside (by omega)).c5, ((x_s.aside (by omega)).aside (by omega)).c6, ((x_s.aside (by omega)).aside (by omega)).c7, ((x_o.aside (by omega)).aside (by omega)).c0, ((x_o.aside (by omega)).aside (by omega)).c1⟩) | go_keep)
     (first | (go_at_call 50; (with_reducible refine (RCmpZ_any e3.drw.zr zo.drw.zr 20000 (by omega) (by omega) (by omega)).mono ?_); rintro e v2 ⟨rfl, hb1⟩; replace hb1 := undrew hb1; replace x_r := x_r.keep hb1; replace x_s := x_s.keep hb1; replace x_o := x_o.keep hb1; replace zo := zo.keep hb1; replace e0 := e0.keep hb1; replace e1 := e1.keep hb1; replace e2 := e2.keep hb1; replace e3 := e3.keep hb1; replace hb := bthen hb hb1; clear hb1; clear q_s0 f_s0 q_s1 f_s1 q_s2 f_s2 q_s3 f_s3 q_s4 f_s4 q_s5 f_s5 q_s6 f_s6 q_s7 f_s7; obtain ⟨q_s0, f_s0, q_s1, f_s1, q_s2, f_s2, q_s3, f_s3, q_s4, f_s4, q_s5, f_s5, q_s6, f_s6, q_s7, f_s7⟩ := x_s.al; clear q_o0 f_o0 q_o1 f_o1; obtain ⟨q_o0, f_o0, q_o1, f_o1⟩ := x_o.al; rw [HC.out]))
    go_wp2
    replace x_r := x_r.aside (b' := (ngB E3)) (A' := A3) (n' := n3) (c' := c3) (g := w.heap.size + 1) (by omega)
    replace x_s := x_s.aside (b' := (ngB E3)) (A' := A3) (n' := n3) (c' := c3) (g := w.heap.size + 1) (by omega)
    replace zo := zo.put (b' := (ngB E3)) (A' := A3) (n' := n3) (c' := c3) x_o
    replace e0 := e0.put (b' := (ngB E3)) (A' := A3) (n' := n3) (c' := c3) x_o
    replace e1 := e1.put (b' := (ngB E3)) (A' := A3) (n' := n3) (c' := c3) x_o
    replace e2 := e2.put (b' := (ngB E3)) (A' := A3) (n' := n3) (c' := c3) x_o
    replace e3 := e3.put (b' := (ngB E3)) (A' := A3) (n' := n3) (c' := c3) x_o
    replace hb := put_below (g := w.heap.size + 1) hb (by omega) (.bool (ngB E3)) (.slice A3 n3 c3)
    replace x_o := x_o.put (ngB E3) A3 n3 c3
    clear q_s0 f_s0 q_s1 f_s1 q_s2 f_s2 q_s3 f_s3 q_s4 f_s4 q_s5 f_s5 q_s6 f_s6 q_s7 f_s7 q_o0 f_o0 q_o1 f_o1
    generalize (v2.setCell ⟨w.heap.size + 1, 0, none⟩ (.bool (ngB E3))).setCell ⟨w.heap.size + 1, 1, none⟩ (.slice A3 n3 c3) = v3 at *
    obtain ⟨q_s0, f_s0, q_s1, f_s1, q_s2, f_s2, q_s3, f_s3, q_s4, f_s4, q_s5, f_s5, q_s6, f_s6, q_s7, f_s7⟩ := x_s.al
    obtain ⟨q_o0, f_o0, q_o1, f_o1⟩ := x_o.al
    go_roundw
    case rel => exact ⟨4, by omega, by omega, by go_num, hb, x_r, _, _, _, by rw [HM1.out]; exact x_o, by rw [HM1.out]; exact e3⟩
    case measure => simp [intOf]
   ·have HM1 := Lib.hid m1; clear m1 i1 i2 hM2
    obtain ⟨q_s0, f_s0, q_s1, f_s1, q_s2, f_s2, q_s3, f_s3, q_s4, f_s4, q_s5, f_s5, q_s6, f_s6, q_s7, f_s7⟩ := x_s.al
    obtain ⟨q_o0, f_o0, q_o1, f_o1⟩ := x_o.al
    go_wp2_with fail
    go_region_held3 (fun w' => w'.cell? ⟨g, 0, none⟩ = some (.bool (ngB E0)) ∧ w'.cell? ⟨g, 1, none⟩ = some (.slice A0 n0 c0) ∧ w'.cell? ⟨g, 2, none⟩ = some (.bool (ngB E1)) ∧ w'.cell? ⟨g, 3, none⟩ = some (.slice A1 n1 c1) ∧ w'.cell? ⟨g, 4, none⟩ = some (.bool (ngB E2)) ∧ w'.cell? ⟨g, 5, none⟩ = some (.slice A2 n2 c2) ∧ w'.cell? ⟨g, 6, none⟩ = some (.bool (ngB E3)) ∧ w'.cell? ⟨g, 7, none⟩ = some (.slice A3 n3 c3) ∧ w'.cell? ⟨w.heap.size + 1, 0, none⟩ = some (.bool (ngB M)) ∧ w'.cell? ⟨w.heap.size + 1, 1, none⟩ = some (.slice Ao no_ co))
     (first | (with_reducible exact ⟨x_s.c0, x_s.c1, x_s.c2, x_s.c3, x_s.c4, x_s.c5, x_s.c6, x_s.c7, x_o.c0, x_o.c1⟩) | (with_reducible exact ⟨(x_s.aside (by omega)).c0, (x_s.aside (by omega)).c1, (x_s.aside (by omega)).c2, (x_s.aside (by omega)).c3, (x_s.aside (by omega)).c4, (x_s.aside (by omega)).c5, (x_s.aside (by omega)).c6, (x_s.aside (by omega)).c7, (x_o.aside (by omega)).c0, (x_o.aside (by omega)).c1⟩) | (with_reducible exact ⟨((x_s.aside (by omega)).aside (by omega)).c0, ((x_s.aside (by omega)).aside (by omega)).c1, ((x_s.aside (by omega)).aside (by omega)).c2, ((x_s.aside (by omega)).aside (by omega)).c3, ((x_s.aside (by omega)).aside (by omega)).c4, ((x_s.aside (by omega)).aside (by omega)).c5, ((x_s.aside (by omega)).aside (by omega)).c6, ((x_s.aside (by omega)).aside (by omega)).c7, ((x_o.aside (by omega)).aside (by omega)).c0, ((x_o.aside (by omega)).aside (by omega)).c1⟩) | go_keep)
     (first | (go_at_call 50; (with_reducible refine (RCmpZ_any e3.drw.zr zo.drw.zr 20000 (by omega) (by omega) (by omega)).mono ?_); rintro e v2 ⟨rfl, hb1⟩; replace hb1 := undrew hb1; replace x_r := x_r.keep hb1; replace x_s := x_s.keep hb1; replace x_o := x_o.keep hb1; replace zo := zo.keep hb1; replace e0 := e0.keep hb1; replace e1 := e1.keep hb1; replace e2 := e2.keep hb1; replace e3 := e3.keep hb1; replace hb := bthen hb hb1; clear hb1; clear q_s0 f_s0 q_s1 f_s1 q_s2 f_s2 q_s3 f_s3 q_s4 f_s4 q_s5 f_s5 q_s6 f_s6 q_s7 f_s7; obtain ⟨q_s0, f_s0, q_s1, f_s1, q_s2, f_s2, q_s3, f_s3, q_s4, f_s4, q_s5, f_s5, q_s6, f_s6, q_s7, f_s7⟩ := x_s.al; clear q_o0 f_o0 q_o1 f_o1; obtain ⟨q_o0, f_o0, q_o1, f_o1⟩ := x_o.al; rw [HC.out]))
    go_wp2
    go_roundw
    case rel => exact ⟨4, by omega, by omega, by go_num, hb, x_r, _, _, _, by rw [HM1.out]; exact x_o, by rw [HM1.out]; exact zo⟩
    case measure => simp [intOf]
  ·have hm : maxK E0 E1 E2 E3 4 = M0 := HM0.out
   rw [hm] at zo x_o
   clear hm
   obtain ⟨q_r0, f_r0, q_r1, f_r1⟩ := x_r.al
   obtain ⟨q_o0, f_o0, q_o1, f_o1⟩ := x_o.al
   go_wp2
   replace x_s := x_s.aside (b' := (ngB M0)) (A' := Ao) (n' := no_) (c' := co) (g := w.heap.size) (by omega)
   replace x_o := x_o.aside (b' := (ngB M0)) (A' := Ao) (n' := no_) (c' := co) (g := w.heap.size) (by omega)
   replace zo := zo.put (b' := (ngB M0)) (A' := Ao) (n' := no_) (c' := co) x_r
   replace e0 := e0.put (b' := (ngB M0)) (A' := Ao) (n' := no_) (c' := co) x_r
   replace e1 := e1.put (b' := (ngB M0)) (A' := Ao) (n' := no_) (c' := co) x_r
   replace e2 := e2.put (b' := (ngB M0)) (A' := Ao) (n' := no_) (c' := co) x_r
   replace e3 := e3.put (b' := (ngB M0)) (A' := Ao) (n' := no_) (c' := co) x_r
   replace hb := put_below (g := w.heap.size) hb (by omega) (.bool (ngB M0)) (.slice Ao no_ co)
   replace x_r := x_r.put (ngB M0) Ao no_ co
   clear q_r0 f_r0 q_r1 f_r1 q_o0 f_o0 q_o1 f_o1
   generalize (wr.setCell ⟨w.heap.size, 0, none⟩ (.bool (ngB M0))).setCell ⟨w.heap.size, 1, none⟩ (.slice Ao no_ co) = v2 at *
   obtain ⟨q_r0, f_r0, q_r1, f_r1⟩ := x_r.al
   obtain ⟨q_o0, f_o0, q_o1, f_o1⟩ := x_o.al
   skip
   refine bodyPost_ret (v := .agg #[.bool (ngB M0), .slice Ao no_ co]) (by simp [results, Tryz.results64, go_sem, q_r0, q_r1]) rfl ?_
   exact ⟨_, _, _, rfl, zo, hb⟩

end Go.Proofs.YtiigacddjihokaaGreatDoor
