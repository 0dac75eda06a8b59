/-
  the document's answers for ball: Shift.
-/
import Derived.Test.YtiigacddjihokaaGreatDoorLrdn
namespace Go.Proofs.YtiigacddjihokaaGreatDoor
open Go.RowKit
set_option linter.unusedVariables false

set_option maxRecDepth 100000 in
set_option maxHeartbeats 2000000 in
theorem RTimes_no {b b2 : Bool} {A A2 : Option Addr} {n c n2 c2 : Nat} {X Y q : Int} {j j2 : Nat} {w : World} (h : Zr w b A n c X j) (h2 : Zr w b2 A2 n2 c2 Y j2) {b3 : Bool} {A3 : Option Addr} {n3 c3 : Nat} (hv : ¬ (0 ≤ q ∧ q ≤ 2048 ∧ X ≤ Y)) (hj : j ≤ 8) (hj2 : j2 ≤ 8) :
    Calls Tryz.prog 27 #[.agg #[.bool b, .slice A n c, .bool b2, .slice A2 n2 c2, .int .i64 q], .agg #[.bool b3, .slice A3 n3 c3]] w (ErrL w 1) := by
  have HR := Lib.hid (rB_no hv)
  clear hv
  go_enter Tryz.func27, Tryz.ntmps27
  go_wp2_with fail
  have x_a : Lx (w.alloc (.cells #[.bool b, .slice A n c, .bool b2, .slice A2 n2 c2, .int .i64 q] 26)) (w.heap.size) b A n c b2 A2 n2 c2 q := by have := Lx.new w b A n c b2 A2 n2 c2 q; simpa using this
  replace x_a := x_a.alloc (.cells #[.bool b3, .slice A3 n3 c3] 24)
  have x_k : Bx ((w.alloc (.cells #[.bool b, .slice A n c, .bool b2, .slice A2 n2 c2, .int .i64 q] 26)).alloc (.cells #[.bool b3, .slice A3 n3 c3] 24)) (w.heap.size + 1) b3 A3 n3 c3 := by have := Bx.new (w.alloc (.cells #[.bool b, .slice A n c, .bool b2, .slice A2 n2 c2, .int .i64 q] 26)) b3 A3 n3 c3; simpa using this
  replace x_a := x_a.alloc (.cells #[.bool false, .slice none 0 0, .bool false, .slice none 0 0, .int .i64 0] 26)
  replace x_k := x_k.alloc (.cells #[.bool false, .slice none 0 0, .bool false, .slice none 0 0, .int .i64 0] 26)
  have x_r : Lx (((w.alloc (.cells #[.bool b, .slice A n c, .bool b2, .slice A2 n2 c2, .int .i64 q] 26)).alloc (.cells #[.bool b3, .slice A3 n3 c3] 24)).alloc (.cells #[.bool false, .slice none 0 0, .bool false, .slice none 0 0, .int .i64 0] 26)) (w.heap.size + 1 + 1) false none 0 0 false none 0 0 0 := by have := Lx.new ((w.alloc (.cells #[.bool b, .slice A n c, .bool b2, .slice A2 n2 c2, .int .i64 q] 26)).alloc (.cells #[.bool b3, .slice A3 n3 c3] 24)) false none 0 0 false none 0 0 0; simpa using this
  have hb : Below w.heap.size w (((w.alloc (.cells #[.bool b, .slice A n c, .bool b2, .slice A2 n2 c2, .int .i64 q] 26)).alloc (.cells #[.bool b3, .slice A3 n3 c3] 24)).alloc (.cells #[.bool false, .slice none 0 0, .bool false, .slice none 0 0, .int .i64 0] 26)) := (Below.alloc (Below.alloc (Below.alloc (Below.refl w.heap.size w) (by simp) (.cells #[.bool b, .slice A n c, .bool b2, .slice A2 n2 c2, .int .i64 q] 26)) (by simp) (.cells #[.bool b3, .slice A3 n3 c3] 24)) (by simp; omega) (.cells #[.bool false, .slice none 0 0, .bool false, .slice none 0 0, .int .i64 0] 26))
  generalize ((w.alloc (.cells #[.bool b, .slice A n c, .bool b2, .slice A2 n2 c2, .int .i64 q] 26)).alloc (.cells #[.bool b3, .slice A3 n3 c3] 24)).alloc (.cells #[.bool false, .slice none 0 0, .bool false, .slice none 0 0, .int .i64 0] 26) = v1 at *
  replace h := h.keep hb
  replace h2 := h2.keep hb
  obtain ⟨q_a0, f_a0, q_a1, f_a1, q_a2, f_a2, q_a3, f_a3, q_a4, f_a4⟩ := x_a.al
  obtain ⟨q_k0, f_k0, q_k1, f_k1⟩ := x_k.al
  obtain ⟨q_r0, f_r0, q_r1, f_r1, q_r2, f_r2, q_r3, f_r3, q_r4, f_r4⟩ := x_r.al
  go_wp2_with fail
  with_reducible refine (RRight_any h h2 (by omega) (by omega)).mono ?_
  rintro e v2 ⟨rfl, hb1⟩
  replace x_a := x_a.keep hb1
  replace x_k := x_k.keep hb1
  replace x_r := x_r.keep hb1
  replace h := h.keep hb1
  replace h2 := h2.keep hb1
  replace hb := bthen hb hb1
  clear hb1
  clear q_a0 f_a0 q_a1 f_a1 q_a2 f_a2 q_a3 f_a3 q_a4 f_a4; obtain ⟨q_a0, f_a0, q_a1, f_a1, q_a2, f_a2, q_a3, f_a3, q_a4, f_a4⟩ := x_a.al
  clear q_k0 f_k0 q_k1 f_k1; obtain ⟨q_k0, f_k0, q_k1, f_k1⟩ := x_k.al
  clear q_r0 f_r0 q_r1 f_r1 q_r2 f_r2 q_r3 f_r3 q_r4 f_r4; obtain ⟨q_r0, f_r0, q_r1, f_r1, q_r2, f_r2, q_r3, f_r3, q_r4, f_r4⟩ := x_r.al
  rw [HR.out]
  go_wp2_with fail
  go_wp2
  replace x_a := x_a.asideL (b' := false) (A' := none) (n' := 0) (c' := 0) (p' := false) (B' := none) (m' := 0) (d' := 0) (e' := 0) (g := w.heap.size + 1 + 1) (by omega)
  replace x_k := x_k.asideL (b' := false) (A' := none) (n' := 0) (c' := 0) (p' := false) (B' := none) (m' := 0) (d' := 0) (e' := 0) (g := w.heap.size + 1 + 1) (by omega)
  replace h := h.putL (b' := false) (A' := none) (n' := 0) (c' := 0) (p' := false) (B' := none) (m' := 0) (d' := 0) (e' := 0) x_r
  replace h2 := h2.putL (b' := false) (A' := none) (n' := 0) (c' := 0) (p' := false) (B' := none) (m' := 0) (d' := 0) (e' := 0) x_r
  replace hb := put_belowL (g := w.heap.size + 1 + 1) hb (by omega) (.bool false) (.slice none 0 0) (.bool false) (.slice none 0 0) (.int .i64 0)
  replace x_r := x_r.put false none 0 0 false none 0 0 0
  clear q_a0 f_a0 q_a1 f_a1 q_a2 f_a2 q_a3 f_a3 q_a4 f_a4 q_k0 f_k0 q_k1 f_k1 q_r0 f_r0 q_r1 f_r1 q_r2 f_r2 q_r3 f_r3 q_r4 f_r4
  generalize ((((v2.setCell ⟨w.heap.size + 1 + 1, 0, none⟩ (.bool false)).setCell ⟨w.heap.size + 1 + 1, 1, none⟩ (.slice none 0 0)).setCell ⟨w.heap.size + 1 + 1, 2, none⟩ (.bool false)).setCell ⟨w.heap.size + 1 + 1, 3, none⟩ (.slice none 0 0)).setCell ⟨w.heap.size + 1 + 1, 4, none⟩ (.int .i64 0) = v3 at *
  obtain ⟨q_a0, f_a0, q_a1, f_a1, q_a2, f_a2, q_a3, f_a3, q_a4, f_a4⟩ := x_a.al
  obtain ⟨q_k0, f_k0, q_k1, f_k1⟩ := x_k.al
  obtain ⟨q_r0, f_r0, q_r1, f_r1, q_r2, f_r2, q_r3, f_r3, q_r4, f_r4⟩ := x_r.al
  refine bodyPost_ret (v := .tuple #[.agg #[.bool false, .slice none 0 0, .bool false, .slice none 0 0, .int .i64 0], .int .i64 1]) (by simp [results, Tryz.results27, go_sem, q_r0, q_r1, q_r2, q_r3, q_r4]) rfl ?_
  exact ⟨rfl, hb⟩

set_option maxRecDepth 100000 in
set_option maxHeartbeats 4000000 in
theorem RShift_yes {b b2 : Bool} {A A2 : Option Addr} {n c n2 c2 : Nat} {X Y q : Int} {j j2 : Nat} {w : World} (h : Zr w b A n c X j) (h2 : Zr w b2 A2 n2 c2 Y j2) (i : Int) (hv : 0 ≤ q ∧ q ≤ 2048 ∧ X ≤ Y) (hi : -4000 ≤ i ∧ i ≤ 4000) (hj : j ≤ 8) (hj2 : j2 ≤ 8) :
    Calls Tryz.prog 29 #[.agg #[.bool b, .slice A n c, .bool b2, .slice A2 n2 c2, .int .i64 q], .int .i64 i] w (OuL w (flI X i) (-flI (-Y) i) q 140) := by
  have HR := Lib.hid (rB_yes hv)
  clear hv
  have o1 : ¬ i < -4000 := by omega
  have o2 : ¬ 4000 < i := by omega
  have hwr : IntKind.i64.wrap (-i) = -i := wrap_in (by omega) (by omega)
  obtain ⟨L, hL⟩ : ∃ L, flI X i = L := ⟨_, rfl⟩
  obtain ⟨H, hH⟩ : ∃ H, -flI (-Y) i = H := ⟨_, rfl⟩
  have hn : - -i = i := Int.neg_neg i
  rw [hL, hH]
  have HL := Lib.hid hL; have HH := Lib.hid hH; have HN := Lib.hid hn; clear hL hH hn
  go_enter Tryz.func29, Tryz.ntmps29
  go_wp2_with fail
  have x_a : Lx (w.alloc (.cells #[.bool b, .slice A n c, .bool b2, .slice A2 n2 c2, .int .i64 q] 26)) (w.heap.size) b A n c b2 A2 n2 c2 q := by have := Lx.new w b A n c b2 A2 n2 c2 q; simpa using this
  replace x_a := x_a.alloc (.cells #[.bool false, .slice none 0 0, .bool false, .slice none 0 0, .int .i64 0] 26)
  have x_r : Lx ((w.alloc (.cells #[.bool b, .slice A n c, .bool b2, .slice A2 n2 c2, .int .i64 q] 26)).alloc (.cells #[.bool false, .slice none 0 0, .bool false, .slice none 0 0, .int .i64 0] 26)) (w.heap.size + 1) false none 0 0 false none 0 0 0 := by have := Lx.new (w.alloc (.cells #[.bool b, .slice A n c, .bool b2, .slice A2 n2 c2, .int .i64 q] 26)) false none 0 0 false none 0 0 0; simpa using this
  have hb : Below w.heap.size w ((w.alloc (.cells #[.bool b, .slice A n c, .bool b2, .slice A2 n2 c2, .int .i64 q] 26)).alloc (.cells #[.bool false, .slice none 0 0, .bool false, .slice none 0 0, .int .i64 0] 26)) := (Below.alloc (Below.alloc (Below.refl w.heap.size w) (by simp) (.cells #[.bool b, .slice A n c, .bool b2, .slice A2 n2 c2, .int .i64 q] 26)) (by simp) (.cells #[.bool false, .slice none 0 0, .bool false, .slice none 0 0, .int .i64 0] 26))
  generalize (w.alloc (.cells #[.bool b, .slice A n c, .bool b2, .slice A2 n2 c2, .int .i64 q] 26)).alloc (.cells #[.bool false, .slice none 0 0, .bool false, .slice none 0 0, .int .i64 0] 26) = v1 at *
  replace h := h.keep hb
  replace h2 := h2.keep hb
  obtain ⟨q_a0, f_a0, q_a1, f_a1, q_a2, f_a2, q_a3, f_a3, q_a4, f_a4⟩ := x_a.al
  obtain ⟨q_r0, f_r0, q_r1, f_r1, q_r2, f_r2, q_r3, f_r3, q_r4, f_r4⟩ := x_r.al
  go_wp2_with fail
  with_reducible refine (RRight_any h h2 (by omega) (by omega)).mono ?_
  rintro e v2 ⟨rfl, hb1⟩
  replace x_a := x_a.keep hb1
  replace x_r := x_r.keep hb1
  replace h := h.keep hb1
  replace h2 := h2.keep hb1
  replace hb := bthen hb hb1
  clear hb1
  clear q_a0 f_a0 q_a1 f_a1 q_a2 f_a2 q_a3 f_a3 q_a4 f_a4; obtain ⟨q_a0, f_a0, q_a1, f_a1, q_a2, f_a2, q_a3, f_a3, q_a4, f_a4⟩ := x_a.al
  clear q_r0 f_r0 q_r1 f_r1 q_r2 f_r2 q_r3 f_r3 q_r4 f_r4; obtain ⟨q_r0, f_r0, q_r1, f_r1, q_r2, f_r2, q_r3, f_r3, q_r4, f_r4⟩ := x_r.al
  rw [HR.out]
  go_wp2_with fail
  go_region_held3 (fun w' => w'.cell? ⟨w.heap.size, 0, none⟩ = some (.bool b) ∧ w'.cell? ⟨w.heap.size, 1, none⟩ = some (.slice A n c) ∧ w'.cell? ⟨w.heap.size, 2, none⟩ = some (.bool b2) ∧ w'.cell? ⟨w.heap.size, 3, none⟩ = some (.slice A2 n2 c2) ∧ w'.cell? ⟨w.heap.size, 4, none⟩ = some (.int .i64 q))
    (first | (with_reducible exact ⟨x_a.c0, x_a.c1, x_a.c2, x_a.c3, x_a.c4⟩) | (with_reducible exact ⟨(x_a.aside (by omega)).c0, (x_a.aside (by omega)).c1, (x_a.aside (by omega)).c2, (x_a.aside (by omega)).c3, (x_a.aside (by omega)).c4⟩) | (with_reducible exact ⟨((x_a.aside (by omega)).aside (by omega)).c0, ((x_a.aside (by omega)).aside (by omega)).c1, ((x_a.aside (by omega)).aside (by omega)).c2, ((x_a.aside (by omega)).aside (by omega)).c3, ((x_a.aside (by omega)).aside (by omega)).c4⟩) | (with_reducible exact ⟨(x_a.asideD (by omega)).c0, (x_a.asideD (by omega)).c1, (x_a.asideD (by omega)).c2, (x_a.asideD (by omega)).c3, (x_a.asideD (by omega)).c4⟩) | (with_reducible exact ⟨((x_a.asideD (by omega)).asideD (by omega)).c0, ((x_a.asideD (by omega)).asideD (by omega)).c1, ((x_a.asideD (by omega)).asideD (by omega)).c2, ((x_a.asideD (by omega)).asideD (by omega)).c3, ((x_a.asideD (by omega)).asideD (by omega)).c4⟩) | (with_reducible exact ⟨(x_a.asideL (by omega)).c0, (x_a.asideL (by omega)).c1, (x_a.asideL (by omega)).c2, (x_a.asideL (by omega)).c3, (x_a.asideL (by omega)).c4⟩) | (with_reducible exact ⟨((x_a.asideL (by omega)).asideL (by omega)).c0, ((x_a.asideL (by omega)).asideL (by omega)).c1, ((x_a.asideL (by omega)).asideL (by omega)).c2, ((x_a.asideL (by omega)).asideL (by omega)).c3, ((x_a.asideL (by omega)).asideL (by omega)).c4⟩) | go_keep)
    (first | (go_at_call 47; (with_reducible refine (RDown_any h.drw (-i) (by omega) 140 (by omega) (by omega)).mono ?_); rintro e v3 ⟨A5, n5, c5, rfl, z5, hb1⟩; replace hb1 := undrew hb1; replace x_a := x_a.keep hb1; replace x_r := x_r.keep hb1; replace h := h.keep hb1; replace h2 := h2.keep hb1; replace hb := bthen hb hb1; clear hb1; clear q_a0 f_a0 q_a1 f_a1 q_a2 f_a2 q_a3 f_a3 q_a4 f_a4; obtain ⟨q_a0, f_a0, q_a1, f_a1, q_a2, f_a2, q_a3, f_a3, q_a4, f_a4⟩ := x_a.al; clear q_r0 f_r0 q_r1 f_r1 q_r2 f_r2 q_r3 f_r3 q_r4 f_r4; obtain ⟨q_r0, f_r0, q_r1, f_r1, q_r2, f_r2, q_r3, f_r3, q_r4, f_r4⟩ := x_r.al; rw [HN.out, HL.out] at z5; rw [HN.out, HL.out]) | (go_at_call 48; (with_reducible refine (ROver_any h2 (-i) (by omega) 140 (by omega) (by omega)).mono ?_); rintro e v4 ⟨A6, n6, c6, rfl, z6, hb1⟩; replace x_a := x_a.keep hb1; replace x_r := x_r.keep hb1; replace h := h.keep hb1; replace h2 := h2.keep hb1; replace z5 := z5.keep hb1; replace hb := bthen hb hb1; clear hb1; clear q_a0 f_a0 q_a1 f_a1 q_a2 f_a2 q_a3 f_a3 q_a4 f_a4; obtain ⟨q_a0, f_a0, q_a1, f_a1, q_a2, f_a2, q_a3, f_a3, q_a4, f_a4⟩ := x_a.al; clear q_r0 f_r0 q_r1 f_r1 q_r2 f_r2 q_r3 f_r3 q_r4 f_r4; obtain ⟨q_r0, f_r0, q_r1, f_r1, q_r2, f_r2, q_r3, f_r3, q_r4, f_r4⟩ := x_r.al; rw [HN.out, HH.out] at z6; rw [HN.out, HH.out]))
  go_wp2
  replace x_a := x_a.asideL (b' := (ngB L)) (A' := A5) (n' := n5) (c' := c5) (p' := (ngB H)) (B' := A6) (m' := n6) (d' := c6) (e' := q) (g := w.heap.size + 1) (by omega)
  replace h := h.putL (b' := (ngB L)) (A' := A5) (n' := n5) (c' := c5) (p' := (ngB H)) (B' := A6) (m' := n6) (d' := c6) (e' := q) x_r
  replace h2 := h2.putL (b' := (ngB L)) (A' := A5) (n' := n5) (c' := c5) (p' := (ngB H)) (B' := A6) (m' := n6) (d' := c6) (e' := q) x_r
  replace z5 := z5.putL (b' := (ngB L)) (A' := A5) (n' := n5) (c' := c5) (p' := (ngB H)) (B' := A6) (m' := n6) (d' := c6) (e' := q) x_r
  replace z6 := z6.putL (b' := (ngB L)) (A' := A5) (n' := n5) (c' := c5) (p' := (ngB H)) (B' := A6) (m' := n6) (d' := c6) (e' := q) x_r
  replace hb := put_belowL (g := w.heap.size + 1) hb (by omega) (.bool (ngB L)) (.slice A5 n5 c5) (.bool (ngB H)) (.slice A6 n6 c6) (.int .i64 q)
  replace x_r := x_r.put (ngB L) A5 n5 c5 (ngB H) A6 n6 c6 q
  clear q_a0 f_a0 q_a1 f_a1 q_a2 f_a2 q_a3 f_a3 q_a4 f_a4 q_r0 f_r0 q_r1 f_r1 q_r2 f_r2 q_r3 f_r3 q_r4 f_r4
  generalize ((((v4.setCell ⟨w.heap.size + 1, 0, none⟩ (.bool (ngB L))).setCell ⟨w.heap.size + 1, 1, none⟩ (.slice A5 n5 c5)).setCell ⟨w.heap.size + 1, 2, none⟩ (.bool (ngB H))).setCell ⟨w.heap.size + 1, 3, none⟩ (.slice A6 n6 c6)).setCell ⟨w.heap.size + 1, 4, none⟩ (.int .i64 q) = v5 at *
  obtain ⟨q_a0, f_a0, q_a1, f_a1, q_a2, f_a2, q_a3, f_a3, q_a4, f_a4⟩ := x_a.al
  obtain ⟨q_r0, f_r0, q_r1, f_r1, q_r2, f_r2, q_r3, f_r3, q_r4, f_r4⟩ := x_r.al
  refine bodyPost_ret (v := .tuple #[.agg #[.bool (ngB L), .slice A5 n5 c5, .bool (ngB H), .slice A6 n6 c6, .int .i64 q], .int .i64 0]) (by simp [results, Tryz.results29, go_sem, q_r0, q_r1, q_r2, q_r3, q_r4]) rfl ?_
  exact ⟨_, _, _, _, _, _, rfl, z5, z6, hb⟩

set_option maxRecDepth 100000 in
set_option maxHeartbeats 4000000 in
theorem RShift_no {b b2 : Bool} {A A2 : Option Addr} {n c n2 c2 : Nat} {X Y q : Int} {j j2 : Nat} {w : World} (h : Zr w b A n c X j) (h2 : Zr w b2 A2 n2 c2 Y j2) (i : Int) (hv : ¬ ((0 ≤ q ∧ q ≤ 2048 ∧ X ≤ Y) ∧ -4000 ≤ i ∧ i ≤ 4000)) (hj : j ≤ 8) (hj2 : j2 ≤ 8) :
    Calls Tryz.prog 29 #[.agg #[.bool b, .slice A n c, .bool b2, .slice A2 n2 c2, .int .i64 q], .int .i64 i] w (ErrL w 1) := by
  by_cases hr : 0 ≤ q ∧ q ≤ 2048 ∧ X ≤ Y
  · have HR := Lib.hid (rB_yes hr)
    rcases (show i < -4000 ∨ (¬ i < -4000 ∧ 4000 < i) by omega) with o1 | ⟨o1, o2⟩ <;> clear hv hr
    · skip
      go_enter Tryz.func29, Tryz.ntmps29
      go_wp2_with fail
      have x_a : Lx (w.alloc (.cells #[.bool b, .slice A n c, .bool b2, .slice A2 n2 c2, .int .i64 q] 26)) (w.heap.size) b A n c b2 A2 n2 c2 q := by have := Lx.new w b A n c b2 A2 n2 c2 q; simpa using this
      replace x_a := x_a.alloc (.cells #[.bool false, .slice none 0 0, .bool false, .slice none 0 0, .int .i64 0] 26)
      have x_r : Lx ((w.alloc (.cells #[.bool b, .slice A n c, .bool b2, .slice A2 n2 c2, .int .i64 q] 26)).alloc (.cells #[.bool false, .slice none 0 0, .bool false, .slice none 0 0, .int .i64 0] 26)) (w.heap.size + 1) false none 0 0 false none 0 0 0 := by have := Lx.new (w.alloc (.cells #[.bool b, .slice A n c, .bool b2, .slice A2 n2 c2, .int .i64 q] 26)) false none 0 0 false none 0 0 0; simpa using this
      have hb : Below w.heap.size w ((w.alloc (.cells #[.bool b, .slice A n c, .bool b2, .slice A2 n2 c2, .int .i64 q] 26)).alloc (.cells #[.bool false, .slice none 0 0, .bool false, .slice none 0 0, .int .i64 0] 26)) := (Below.alloc (Below.alloc (Below.refl w.heap.size w) (by simp) (.cells #[.bool b, .slice A n c, .bool b2, .slice A2 n2 c2, .int .i64 q] 26)) (by simp) (.cells #[.bool false, .slice none 0 0, .bool false, .slice none 0 0, .int .i64 0] 26))
      generalize (w.alloc (.cells #[.bool b, .slice A n c, .bool b2, .slice A2 n2 c2, .int .i64 q] 26)).alloc (.cells #[.bool false, .slice none 0 0, .bool false, .slice none 0 0, .int .i64 0] 26) = v1 at *
      replace h := h.keep hb
      replace h2 := h2.keep hb
      obtain ⟨q_a0, f_a0, q_a1, f_a1, q_a2, f_a2, q_a3, f_a3, q_a4, f_a4⟩ := x_a.al
      obtain ⟨q_r0, f_r0, q_r1, f_r1, q_r2, f_r2, q_r3, f_r3, q_r4, f_r4⟩ := x_r.al
      go_wp2_with fail
      with_reducible refine (RRight_any h h2 (by omega) (by omega)).mono ?_
      rintro e v2 ⟨rfl, hb1⟩
      replace x_a := x_a.keep hb1
      replace x_r := x_r.keep hb1
      replace h := h.keep hb1
      replace h2 := h2.keep hb1
      replace hb := bthen hb hb1
      clear hb1
      clear q_a0 f_a0 q_a1 f_a1 q_a2 f_a2 q_a3 f_a3 q_a4 f_a4; obtain ⟨q_a0, f_a0, q_a1, f_a1, q_a2, f_a2, q_a3, f_a3, q_a4, f_a4⟩ := x_a.al
      clear q_r0 f_r0 q_r1 f_r1 q_r2 f_r2 q_r3 f_r3 q_r4 f_r4; obtain ⟨q_r0, f_r0, q_r1, f_r1, q_r2, f_r2, q_r3, f_r3, q_r4, f_r4⟩ := x_r.al
      rw [HR.out]
      go_wp2_with fail
      go_wp2
      replace x_a := x_a.asideL (b' := false) (A' := none) (n' := 0) (c' := 0) (p' := false) (B' := none) (m' := 0) (d' := 0) (e' := 0) (g := w.heap.size + 1) (by omega)
      replace h := h.putL (b' := false) (A' := none) (n' := 0) (c' := 0) (p' := false) (B' := none) (m' := 0) (d' := 0) (e' := 0) x_r
      replace h2 := h2.putL (b' := false) (A' := none) (n' := 0) (c' := 0) (p' := false) (B' := none) (m' := 0) (d' := 0) (e' := 0) x_r
      replace hb := put_belowL (g := w.heap.size + 1) hb (by omega) (.bool false) (.slice none 0 0) (.bool false) (.slice none 0 0) (.int .i64 0)
      replace x_r := x_r.put false none 0 0 false none 0 0 0
      clear q_a0 f_a0 q_a1 f_a1 q_a2 f_a2 q_a3 f_a3 q_a4 f_a4 q_r0 f_r0 q_r1 f_r1 q_r2 f_r2 q_r3 f_r3 q_r4 f_r4
      generalize ((((v2.setCell ⟨w.heap.size + 1, 0, none⟩ (.bool false)).setCell ⟨w.heap.size + 1, 1, none⟩ (.slice none 0 0)).setCell ⟨w.heap.size + 1, 2, none⟩ (.bool false)).setCell ⟨w.heap.size + 1, 3, none⟩ (.slice none 0 0)).setCell ⟨w.heap.size + 1, 4, none⟩ (.int .i64 0) = v3 at *
      obtain ⟨q_a0, f_a0, q_a1, f_a1, q_a2, f_a2, q_a3, f_a3, q_a4, f_a4⟩ := x_a.al
      obtain ⟨q_r0, f_r0, q_r1, f_r1, q_r2, f_r2, q_r3, f_r3, q_r4, f_r4⟩ := x_r.al
      refine bodyPost_ret (v := .tuple #[.agg #[.bool false, .slice none 0 0, .bool false, .slice none 0 0, .int .i64 0], .int .i64 1]) (by simp [results, Tryz.results29, go_sem, q_r0, q_r1, q_r2, q_r3, q_r4]) rfl ?_
      exact ⟨rfl, hb⟩
    · skip
      go_enter Tryz.func29, Tryz.ntmps29
      go_wp2_with fail
      have x_a : Lx (w.alloc (.cells #[.bool b, .slice A n c, .bool b2, .slice A2 n2 c2, .int .i64 q] 26)) (w.heap.size) b A n c b2 A2 n2 c2 q := by have := Lx.new w b A n c b2 A2 n2 c2 q; simpa using this
      replace x_a := x_a.alloc (.cells #[.bool false, .slice none 0 0, .bool false, .slice none 0 0, .int .i64 0] 26)
      have x_r : Lx ((w.alloc (.cells #[.bool b, .slice A n c, .bool b2, .slice A2 n2 c2, .int .i64 q] 26)).alloc (.cells #[.bool false, .slice none 0 0, .bool false, .slice none 0 0, .int .i64 0] 26)) (w.heap.size + 1) false none 0 0 false none 0 0 0 := by have := Lx.new (w.alloc (.cells #[.bool b, .slice A n c, .bool b2, .slice A2 n2 c2, .int .i64 q] 26)) false none 0 0 false none 0 0 0; simpa using this
      have hb : Below w.heap.size w ((w.alloc (.cells #[.bool b, .slice A n c, .bool b2, .slice A2 n2 c2, .int .i64 q] 26)).alloc (.cells #[.bool false, .slice none 0 0, .bool false, .slice none 0 0, .int .i64 0] 26)) := (Below.alloc (Below.alloc (Below.refl w.heap.size w) (by simp) (.cells #[.bool b, .slice A n c, .bool b2, .slice A2 n2 c2, .int .i64 q] 26)) (by simp) (.cells #[.bool false, .slice none 0 0, .bool false, .slice none 0 0, .int .i64 0] 26))
      generalize (w.alloc (.cells #[.bool b, .slice A n c, .bool b2, .slice A2 n2 c2, .int .i64 q] 26)).alloc (.cells #[.bool false, .slice none 0 0, .bool false, .slice none 0 0, .int .i64 0] 26) = v1 at *
      replace h := h.keep hb
      replace h2 := h2.keep hb
      obtain ⟨q_a0, f_a0, q_a1, f_a1, q_a2, f_a2, q_a3, f_a3, q_a4, f_a4⟩ := x_a.al
      obtain ⟨q_r0, f_r0, q_r1, f_r1, q_r2, f_r2, q_r3, f_r3, q_r4, f_r4⟩ := x_r.al
      go_wp2_with fail
      with_reducible refine (RRight_any h h2 (by omega) (by omega)).mono ?_
      rintro e v2 ⟨rfl, hb1⟩
      replace x_a := x_a.keep hb1
      replace x_r := x_r.keep hb1
      replace h := h.keep hb1
      replace h2 := h2.keep hb1
      replace hb := bthen hb hb1
      clear hb1
      clear q_a0 f_a0 q_a1 f_a1 q_a2 f_a2 q_a3 f_a3 q_a4 f_a4; obtain ⟨q_a0, f_a0, q_a1, f_a1, q_a2, f_a2, q_a3, f_a3, q_a4, f_a4⟩ := x_a.al
      clear q_r0 f_r0 q_r1 f_r1 q_r2 f_r2 q_r3 f_r3 q_r4 f_r4; obtain ⟨q_r0, f_r0, q_r1, f_r1, q_r2, f_r2, q_r3, f_r3, q_r4, f_r4⟩ := x_r.al
      rw [HR.out]
      go_wp2_with fail
      go_wp2
      replace x_a := x_a.asideL (b' := false) (A' := none) (n' := 0) (c' := 0) (p' := false) (B' := none) (m' := 0) (d' := 0) (e' := 0) (g := w.heap.size + 1) (by omega)
      replace h := h.putL (b' := false) (A' := none) (n' := 0) (c' := 0) (p' := false) (B' := none) (m' := 0) (d' := 0) (e' := 0) x_r
      replace h2 := h2.putL (b' := false) (A' := none) (n' := 0) (c' := 0) (p' := false) (B' := none) (m' := 0) (d' := 0) (e' := 0) x_r
      replace hb := put_belowL (g := w.heap.size + 1) hb (by omega) (.bool false) (.slice none 0 0) (.bool false) (.slice none 0 0) (.int .i64 0)
      replace x_r := x_r.put false none 0 0 false none 0 0 0
      clear q_a0 f_a0 q_a1 f_a1 q_a2 f_a2 q_a3 f_a3 q_a4 f_a4 q_r0 f_r0 q_r1 f_r1 q_r2 f_r2 q_r3 f_r3 q_r4 f_r4
      generalize ((((v2.setCell ⟨w.heap.size + 1, 0, none⟩ (.bool false)).setCell ⟨w.heap.size + 1, 1, none⟩ (.slice none 0 0)).setCell ⟨w.heap.size + 1, 2, none⟩ (.bool false)).setCell ⟨w.heap.size + 1, 3, none⟩ (.slice none 0 0)).setCell ⟨w.heap.size + 1, 4, none⟩ (.int .i64 0) = v3 at *
      obtain ⟨q_a0, f_a0, q_a1, f_a1, q_a2, f_a2, q_a3, f_a3, q_a4, f_a4⟩ := x_a.al
      obtain ⟨q_r0, f_r0, q_r1, f_r1, q_r2, f_r2, q_r3, f_r3, q_r4, f_r4⟩ := x_r.al
      refine bodyPost_ret (v := .tuple #[.agg #[.bool false, .slice none 0 0, .bool false, .slice none 0 0, .int .i64 0], .int .i64 1]) (by simp [results, Tryz.results29, go_sem, q_r0, q_r1, q_r2, q_r3, q_r4]) rfl ?_
      exact ⟨rfl, hb⟩
  · have HR := Lib.hid (rB_no hr)
    clear hv hr
    go_enter Tryz.func29, Tryz.ntmps29
    go_wp2_with fail
    have x_a : Lx (w.alloc (.cells #[.bool b, .slice A n c, .bool b2, .slice A2 n2 c2, .int .i64 q] 26)) (w.heap.size) b A n c b2 A2 n2 c2 q := by have := Lx.new w b A n c b2 A2 n2 c2 q; simpa using this
    replace x_a := x_a.alloc (.cells #[.bool false, .slice none 0 0, .bool false, .slice none 0 0, .int .i64 0] 26)
    have x_r : Lx ((w.alloc (.cells #[.bool b, .slice A n c, .bool b2, .slice A2 n2 c2, .int .i64 q] 26)).alloc (.cells #[.bool false, .slice none 0 0, .bool false, .slice none 0 0, .int .i64 0] 26)) (w.heap.size + 1) false none 0 0 false none 0 0 0 := by have := Lx.new (w.alloc (.cells #[.bool b, .slice A n c, .bool b2, .slice A2 n2 c2, .int .i64 q] 26)) false none 0 0 false none 0 0 0; simpa using this
    have hb : Below w.heap.size w ((w.alloc (.cells #[.bool b, .slice A n c, .bool b2, .slice A2 n2 c2, .int .i64 q] 26)).alloc (.cells #[.bool false, .slice none 0 0, .bool false, .slice none 0 0, .int .i64 0] 26)) := (Below.alloc (Below.alloc (Below.refl w.heap.size w) (by simp) (.cells #[.bool b, .slice A n c, .bool b2, .slice A2 n2 c2, .int .i64 q] 26)) (by simp) (.cells #[.bool false, .slice none 0 0, .bool false, .slice none 0 0, .int .i64 0] 26))
    generalize (w.alloc (.cells #[.bool b, .slice A n c, .bool b2, .slice A2 n2 c2, .int .i64 q] 26)).alloc (.cells #[.bool false, .slice none 0 0, .bool false, .slice none 0 0, .int .i64 0] 26) = v1 at *
    replace h := h.keep hb
    replace h2 := h2.keep hb
    obtain ⟨q_a0, f_a0, q_a1, f_a1, q_a2, f_a2, q_a3, f_a3, q_a4, f_a4⟩ := x_a.al
    obtain ⟨q_r0, f_r0, q_r1, f_r1, q_r2, f_r2, q_r3, f_r3, q_r4, f_r4⟩ := x_r.al
    go_wp2_with fail
    with_reducible refine (RRight_any h h2 (by omega) (by omega)).mono ?_
    rintro e v2 ⟨rfl, hb1⟩
    replace x_a := x_a.keep hb1
    replace x_r := x_r.keep hb1
    replace h := h.keep hb1
    replace h2 := h2.keep hb1
    replace hb := bthen hb hb1
    clear hb1
    clear q_a0 f_a0 q_a1 f_a1 q_a2 f_a2 q_a3 f_a3 q_a4 f_a4; obtain ⟨q_a0, f_a0, q_a1, f_a1, q_a2, f_a2, q_a3, f_a3, q_a4, f_a4⟩ := x_a.al
    clear q_r0 f_r0 q_r1 f_r1 q_r2 f_r2 q_r3 f_r3 q_r4 f_r4; obtain ⟨q_r0, f_r0, q_r1, f_r1, q_r2, f_r2, q_r3, f_r3, q_r4, f_r4⟩ := x_r.al
    rw [HR.out]
    go_wp2_with fail
    go_wp2
    replace x_a := x_a.asideL (b' := false) (A' := none) (n' := 0) (c' := 0) (p' := false) (B' := none) (m' := 0) (d' := 0) (e' := 0) (g := w.heap.size + 1) (by omega)
    replace h := h.putL (b' := false) (A' := none) (n' := 0) (c' := 0) (p' := false) (B' := none) (m' := 0) (d' := 0) (e' := 0) x_r
    replace h2 := h2.putL (b' := false) (A' := none) (n' := 0) (c' := 0) (p' := false) (B' := none) (m' := 0) (d' := 0) (e' := 0) x_r
    replace hb := put_belowL (g := w.heap.size + 1) hb (by omega) (.bool false) (.slice none 0 0) (.bool false) (.slice none 0 0) (.int .i64 0)
    replace x_r := x_r.put false none 0 0 false none 0 0 0
    clear q_a0 f_a0 q_a1 f_a1 q_a2 f_a2 q_a3 f_a3 q_a4 f_a4 q_r0 f_r0 q_r1 f_r1 q_r2 f_r2 q_r3 f_r3 q_r4 f_r4
    generalize ((((v2.setCell ⟨w.heap.size + 1, 0, none⟩ (.bool false)).setCell ⟨w.heap.size + 1, 1, none⟩ (.slice none 0 0)).setCell ⟨w.heap.size + 1, 2, none⟩ (.bool false)).setCell ⟨w.heap.size + 1, 3, none⟩ (.slice none 0 0)).setCell ⟨w.heap.size + 1, 4, none⟩ (.int .i64 0) = v3 at *
    obtain ⟨q_a0, f_a0, q_a1, f_a1, q_a2, f_a2, q_a3, f_a3, q_a4, f_a4⟩ := x_a.al
    obtain ⟨q_r0, f_r0, q_r1, f_r1, q_r2, f_r2, q_r3, f_r3, q_r4, f_r4⟩ := x_r.al
    refine bodyPost_ret (v := .tuple #[.agg #[.bool false, .slice none 0 0, .bool false, .slice none 0 0, .int .i64 0], .int .i64 1]) (by simp [results, Tryz.results29, go_sem, q_r0, q_r1, q_r2, q_r3, q_r4]) rfl ?_
    exact ⟨rfl, hb⟩

end Go.Proofs.YtiigacddjihokaaGreatDoor
