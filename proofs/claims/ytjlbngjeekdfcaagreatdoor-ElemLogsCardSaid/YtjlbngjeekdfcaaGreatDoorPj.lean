/-
 The document's answer for zed: DivMod by 0, and its arithmetic.
-/
import Derived.Test.YtjlbngjeekdfcaaGreatDoorPe
import Derived.Test.YtjlbngjeekdfcaaGreatDoorPc
namespace Go.Proofs.YtjlbngjeekdfcaaGreatDoor
set_option maxRecDepth 100000
set_option maxHeartbeats 2000000
set_option linter.unusedVariables false
section
open Go.RowKit
end
section
open Go.RowKit
end
section
open Go.RowKit
end
section
open Go.RowKit
end
section
open Go.RowKit
end
section
open Go.RowKit
theorem flip_true (A : Option Addr) (n c : Nat) (w : World) :
  Calls Tryz.prog 54 #[.agg #[.bool true, .slice A n c]] w fun e w' => e = .returned (.agg #[.bool false, .slice A n c]) ∧ Below w.heap.size w w' := flip_any true A n c w
theorem Zr.flipt {w : World} {A : Option Addr} {n c k : Nat} {X : Int} (h : Zr w true A n c X k) : Zr w false A n c (-X) k := h.flip
theorem pd_true (b : Bool) (A A2 : Option Addr) (n c n2 c2 : Nat) (w : World) :
  Calls Tryz.prog 155 #[.agg #[.bool b, .slice A n c], .agg #[.bool true, .slice A2 n2 c2]] w fun e w' => e = .returned (.tuple #[.agg #[.bool (!b), .slice A n c], .agg #[.bool false, .slice A2 n2 c2]]) ∧ Below w.heap.size w w' := by
 go_enter Tryz.func155, Tryz.ntmps155
 go_wp2_with fail
 obtain ⟨hb, x_a, x_b, x_p, x_q⟩ := box4 w b A n c true A2 n2 c2 false none 0 0 false none 0 0
 generalize (((w.alloc (.cells #[.bool b, .slice A n c] 24)).alloc (.cells #[.bool true, .slice A2 n2 c2] 24)).alloc (.cells #[.bool false, .slice none 0 0] 24)).alloc (.cells #[.bool false, .slice none 0 0] 24) = v1 at *
 have q_a := x_a.al
 have q_b := x_b.al
 have q_p := x_p.al
 have q_q := x_q.al
 go_wp2_with fail
 go_region_held3 (fun w' => w'.cell? ⟨w.heap.size, 0, none⟩ = some (.bool b) ∧ w'.cell? ⟨w.heap.size, 1, none⟩ = some (.slice A n c) ∧ w'.cell? ⟨w.heap.size + 1, 0, none⟩ = some (.bool true) ∧ w'.cell? ⟨w.heap.size + 1, 1, none⟩ = some (.slice A2 n2 c2))
  (first | (with_reducible exact ⟨x_a.c0, x_a.c1, x_b.c0, x_b.c1⟩) | (with_reducible exact ⟨(x_a.aside (by omega)).c0, (x_a.aside (by omega)).c1, (x_b.aside (by omega)).c0, (x_b.aside (by omega)).c1⟩) | (with_reducible exact ⟨((x_a.aside (by omega)).aside (by omega)).c0, ((x_a.aside (by omega)).aside (by omega)).c1, ((x_b.aside (by omega)).aside (by omega)).c0, ((x_b.aside (by omega)).aside (by omega)).c1⟩) | go_keep)
  (first | (go_at_call 54; (with_reducible refine (flip_any b A n c _).mono ?_); rintro e v2 ⟨rfl, hb1⟩; replace hb1 := undrew hb1; obtain ⟨x_a, x_b, x_p, x_q⟩ := mv4 hb1 x_a x_b x_p x_q; replace hb := bthen hb hb1; clear hb1; replace q_a := x_a.al; replace q_b := x_b.al; replace q_p := x_p.al; replace q_q := x_q.al) | (go_at_call 54; (with_reducible refine (flip_true A2 n2 c2 _).mono ?_); rintro e v3 ⟨rfl, hb1⟩; obtain ⟨x_a, x_b, x_p, x_q⟩ := mv4 hb1 x_a x_b x_p x_q; replace hb := bthen hb hb1; clear hb1; replace q_a := x_a.al; replace q_b := x_b.al; replace q_p := x_p.al; replace q_q := x_q.al))
 go_wp2
 replace x_a := x_a.aside (b' := (!b)) (A' := A) (n' := n) (c' := c) (g := w.heap.size + 1 + 1) (by omega)
 replace x_b := x_b.aside (b' := (!b)) (A' := A) (n' := n) (c' := c) (g := w.heap.size + 1 + 1) (by omega)
 replace x_q := x_q.aside (b' := (!b)) (A' := A) (n' := n) (c' := c) (g := w.heap.size + 1 + 1) (by omega)
 replace hb := put_below (g := w.heap.size + 1 + 1) hb (by omega) (.bool (!b)) (.slice A n c)
 replace x_p := x_p.put (!b) A n c
 clear q_a q_b q_p q_q
 generalize (v3.setCell ⟨w.heap.size + 1 + 1, 0, none⟩ (.bool (!b))).setCell ⟨w.heap.size + 1 + 1, 1, none⟩ (.slice A n c) = v4 at *
 have q_a := x_a.al
 have q_b := x_b.al
 have q_p := x_p.al
 have q_q := x_q.al
 replace x_a := x_a.aside (b' := false) (A' := A2) (n' := n2) (c' := c2) (g := w.heap.size + 1 + 1 + 1) (by omega)
 replace x_b := x_b.aside (b' := false) (A' := A2) (n' := n2) (c' := c2) (g := w.heap.size + 1 + 1 + 1) (by omega)
 replace x_p := x_p.aside (b' := false) (A' := A2) (n' := n2) (c' := c2) (g := w.heap.size + 1 + 1 + 1) (by omega)
 replace hb := put_below (g := w.heap.size + 1 + 1 + 1) hb (by omega) (.bool false) (.slice A2 n2 c2)
 replace x_q := x_q.put false A2 n2 c2
 clear q_a q_b q_p q_q
 generalize (v4.setCell ⟨w.heap.size + 1 + 1 + 1, 0, none⟩ (.bool false)).setCell ⟨w.heap.size + 1 + 1 + 1, 1, none⟩ (.slice A2 n2 c2) = v5 at *
 have q_a := x_a.al
 have q_b := x_b.al
 have q_p := x_p.al
 have q_q := x_q.al
 refine bodyPost_ret (v := .tuple #[.agg #[.bool (!b), .slice A n c], .agg #[.bool false, .slice A2 n2 c2]]) (by simp [results, Tryz.results155, go_sem, q_p, q_q]) rfl ?_
 exact ⟨rfl, hb⟩
theorem pd_false (b : Bool) (A A2 : Option Addr) (n c n2 c2 : Nat) (w : World) :
  Calls Tryz.prog 155 #[.agg #[.bool b, .slice A n c], .agg #[.bool false, .slice A2 n2 c2]] w fun e w' => e = .returned (.tuple #[.agg #[.bool b, .slice A n c], .agg #[.bool false, .slice A2 n2 c2]]) ∧ Below w.heap.size w w' := by
 go_enter Tryz.func155, Tryz.ntmps155
 go_wp2_with fail
 obtain ⟨hb, x_a, x_b, x_p, x_q⟩ := box4 w b A n c false A2 n2 c2 false none 0 0 false none 0 0
 generalize (((w.alloc (.cells #[.bool b, .slice A n c] 24)).alloc (.cells #[.bool false, .slice A2 n2 c2] 24)).alloc (.cells #[.bool false, .slice none 0 0] 24)).alloc (.cells #[.bool false, .slice none 0 0] 24) = v1 at *
 have q_a := x_a.al
 have q_b := x_b.al
 have q_p := x_p.al
 have q_q := x_q.al
 go_wp2_with fail
 go_region_held3 (fun w' => w'.cell? ⟨w.heap.size, 0, none⟩ = some (.bool b) ∧ w'.cell? ⟨w.heap.size, 1, none⟩ = some (.slice A n c) ∧ w'.cell? ⟨w.heap.size + 1, 0, none⟩ = some (.bool false) ∧ w'.cell? ⟨w.heap.size + 1, 1, none⟩ = some (.slice A2 n2 c2))
  (first | (with_reducible exact ⟨x_a.drew.c0, x_a.drew.c1, x_b.drew.c0, x_b.drew.c1⟩) | (with_reducible exact ⟨(x_a.aside (by omega)).drew.c0, (x_a.aside (by omega)).drew.c1, (x_b.aside (by omega)).drew.c0, (x_b.aside (by omega)).drew.c1⟩) | (with_reducible exact ⟨((x_a.aside (by omega)).aside (by omega)).drew.c0, ((x_a.aside (by omega)).aside (by omega)).drew.c1, ((x_b.aside (by omega)).aside (by omega)).drew.c0, ((x_b.aside (by omega)).aside (by omega)).drew.c1⟩) | go_keep)
  (first | fail)
 skip
 replace x_a := x_a.aside (b' := b) (A' := A) (n' := n) (c' := c) (g := w.heap.size + 1 + 1) (by omega)
 replace x_b := x_b.aside (b' := b) (A' := A) (n' := n) (c' := c) (g := w.heap.size + 1 + 1) (by omega)
 replace x_q := x_q.aside (b' := b) (A' := A) (n' := n) (c' := c) (g := w.heap.size + 1 + 1) (by omega)
 replace hb := put_below (g := w.heap.size + 1 + 1) hb (by omega) (.bool b) (.slice A n c)
 replace x_p := x_p.put b A n c
 clear q_a q_b q_p q_q
 generalize (v1.setCell ⟨w.heap.size + 1 + 1, 0, none⟩ (.bool b)).setCell ⟨w.heap.size + 1 + 1, 1, none⟩ (.slice A n c) = v2 at *
 have q_a := x_a.al
 have q_b := x_b.al
 have q_p := x_p.al
 have q_q := x_q.al
 replace x_a := x_a.aside (b' := false) (A' := A2) (n' := n2) (c' := c2) (g := w.heap.size + 1 + 1 + 1) (by omega)
 replace x_b := x_b.aside (b' := false) (A' := A2) (n' := n2) (c' := c2) (g := w.heap.size + 1 + 1 + 1) (by omega)
 replace x_p := x_p.aside (b' := false) (A' := A2) (n' := n2) (c' := c2) (g := w.heap.size + 1 + 1 + 1) (by omega)
 replace hb := put_below (g := w.heap.size + 1 + 1 + 1) hb (by omega) (.bool false) (.slice A2 n2 c2)
 replace x_q := x_q.put false A2 n2 c2
 clear q_a q_b q_p q_q
 generalize (v2.setCell ⟨w.heap.size + 1 + 1 + 1, 0, none⟩ (.bool false)).setCell ⟨w.heap.size + 1 + 1 + 1, 1, none⟩ (.slice A2 n2 c2) = v3 at *
 have q_a := x_a.al
 have q_b := x_b.al
 have q_p := x_p.al
 have q_q := x_q.al
 replace x_a := x_a.drew
 replace x_b := x_b.drew
 replace x_p := x_p.drew
 replace x_q := x_q.drew
 replace hb := below_drew hb
 clear q_a q_b q_p q_q
 generalize v3.drew = v4 at *
 have q_a := x_a.al
 have q_b := x_b.al
 have q_p := x_p.al
 have q_q := x_q.al
 go_wp2
 refine bodyPost_ret (v := .tuple #[.agg #[.bool b, .slice A n c], .agg #[.bool false, .slice A2 n2 c2]]) (by simp [results, Tryz.results155, go_sem, q_p, q_q]) rfl ?_
 exact ⟨rfl, hb⟩
end
section
open Go.RowKit
def upQ (X Y : Int) : Int := if 0 < X % Y then X / Y + 1 else X / Y
def upI (X Y : Int) : Int := if Y < 0 then upQ (-X) (-Y) else upQ X Y
def RdPost (w : World) (Z : Int) (k : Nat) (e : Ending) (w' : World) : Prop := ∃ A n c, e = .returned (.tuple #[.agg #[.bool (ngB Z), .slice A n c], .bool true]) ∧ Zn w' A n c Z k ∧ Below w.heap.size w w'
end
section
open Go.RowKit
end
end Go.Proofs.YtjlbngjeekdfcaaGreatDoor
