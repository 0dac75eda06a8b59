/-
 rows: methods of bounds, small functions.
-/
import Derived.Test.YtdonaominffpnaaGreatDoorKint
import Derived.Shelf.Abstract
import Derived.Deep.DeepCutAuto
namespace Go.Proofs.YtdonaominffpnaaGreatDoor
variable {A A2 A3 : Option Addr} {J L c c2 c3 n n2 n3 : Nat} {U X Y k : Int} {b b2 b3 : Bool} {w : World}
set_option maxRecDepth 100000
set_option maxHeartbeats 4000000
set_option linter.unusedVariables false
open Go.RowKit
theorem upK {d : Int} (hd : 0 < d) : upI X d = -(-X / d) := by
 unfold upI
 rw [if_neg (by omega)]
 unfold upQ
 have e := Int.mul_ediv_add_emod X d
 have r0 := Int.emod_nonneg X (show d ≠ 0 by omega)
 have r1 := Int.emod_lt_of_pos X hd
 generalize X / d = Q at *
 generalize X % d = r at *
 split
 ·have e2 : -X = (d - r) + d * (-Q - 1) := by rw [← e]; grind
  rw [e2, Int.add_mul_ediv_left _ _ (by omega), Int.ediv_eq_zero_of_lt (by omega) (by omega)]; omega
 ·have e2 : -X = 0 + d * (-Q) := by rw [← e]; grind
  rw [e2, Int.add_mul_ediv_left _ _ (by omega)]; simp
theorem wrapK {n : Int} (h0 : -9223372036854775808 ≤ n) (h1 : n ≤ 9223372036854775807) : IntKind.i64.wrap n = n := IntWalk.i64_in _ ⟨h0, h1⟩
theorem Kplus_any {b4 : Bool} {A4 : Option Addr} {n4 c4 : Nat} {V : Int} (h : Zr w b A n c X J) (h2 : Zr w b2 A2 n2 c2 Y J) (h3 : Zr w b3 A3 n3 c3 U J) (h4 : Zr w b4 A4 n4 c4 V J) (hJ : J ≤ 100000) :
  Calls Tryz.prog 236 #[.agg #[.bool b, .slice A n c, .bool b2, .slice A2 n2 c2], .agg #[.bool b3, .slice A3 n3 c3, .bool b4, .slice A4 n4 c4]] w (OuK w (X + U) (Y + V) (J + 1)) := by
 go_enter Tryz.func236, Tryz.ntmps236
 go_wp2_with fail
 have x_a : Kx (w.alloc (.cells #[.bool b, .slice A n c, .bool b2, .slice A2 n2 c2] 190)) (w.heap.size) b A n c b2 A2 n2 c2 := by have := Kx.new w b A n c b2 A2 n2 c2; simpa using this
 replace x_a := x_a.alloc (.cells #[.bool b3, .slice A3 n3 c3, .bool b4, .slice A4 n4 c4] 190)
 have x_d : Kx ((w.alloc (.cells #[.bool b, .slice A n c, .bool b2, .slice A2 n2 c2] 190)).alloc (.cells #[.bool b3, .slice A3 n3 c3, .bool b4, .slice A4 n4 c4] 190)) (w.heap.size + 1) b3 A3 n3 c3 b4 A4 n4 c4 := by have := Kx.new (w.alloc (.cells #[.bool b, .slice A n c, .bool b2, .slice A2 n2 c2] 190)) b3 A3 n3 c3 b4 A4 n4 c4; simpa using this
 replace x_a := x_a.alloc (.cells #[.bool false, .slice none 0 0, .bool false, .slice none 0 0] 190)
 replace x_d := x_d.alloc (.cells #[.bool false, .slice none 0 0, .bool false, .slice none 0 0] 190)
 have x_r : Kx (((w.alloc (.cells #[.bool b, .slice A n c, .bool b2, .slice A2 n2 c2] 190)).alloc (.cells #[.bool b3, .slice A3 n3 c3, .bool b4, .slice A4 n4 c4] 190)).alloc (.cells #[.bool false, .slice none 0 0, .bool false, .slice none 0 0] 190)) (w.heap.size + 1 + 1) false none 0 0 false none 0 0 := by have := Kx.new ((w.alloc (.cells #[.bool b, .slice A n c, .bool b2, .slice A2 n2 c2] 190)).alloc (.cells #[.bool b3, .slice A3 n3 c3, .bool b4, .slice A4 n4 c4] 190)) false none 0 0 false none 0 0; simpa using this
 have hb : Below w.heap.size w (((w.alloc (.cells #[.bool b, .slice A n c, .bool b2, .slice A2 n2 c2] 190)).alloc (.cells #[.bool b3, .slice A3 n3 c3, .bool b4, .slice A4 n4 c4] 190)).alloc (.cells #[.bool false, .slice none 0 0, .bool false, .slice none 0 0] 190)) := (Below.alloc (Below.alloc (Below.alloc (Below.refl w.heap.size w) (by simp) (.cells #[.bool b, .slice A n c, .bool b2, .slice A2 n2 c2] 190)) (by simp) (.cells #[.bool b3, .slice A3 n3 c3, .bool b4, .slice A4 n4 c4] 190)) (by simp; omega) (.cells #[.bool false, .slice none 0 0, .bool false, .slice none 0 0] 190))
 generalize ((w.alloc (.cells #[.bool b, .slice A n c, .bool b2, .slice A2 n2 c2] 190)).alloc (.cells #[.bool b3, .slice A3 n3 c3, .bool b4, .slice A4 n4 c4] 190)).alloc (.cells #[.bool false, .slice none 0 0, .bool false, .slice none 0 0] 190) = v1 at *
 obtain ⟨h, h2, h3, h4⟩ := mv4 hb h h2 h3 h4
 have q_a := x_a.al
 have q_d := x_d.al
 have q_r := x_r.al
 go_wp2_with fail
 go_region_held3 (fun w' => w'.cell? ⟨w.heap.size, 0, none⟩ = some (.bool b) ∧ w'.cell? ⟨w.heap.size, 1, none⟩ = some (.slice A n c) ∧ w'.cell? ⟨w.heap.size, 2, none⟩ = some (.bool b2) ∧ w'.cell? ⟨w.heap.size, 3, none⟩ = some (.slice A2 n2 c2) ∧ w'.cell? ⟨w.heap.size + 1, 0, none⟩ = some (.bool b3) ∧ w'.cell? ⟨w.heap.size + 1, 1, none⟩ = some (.slice A3 n3 c3) ∧ w'.cell? ⟨w.heap.size + 1, 2, none⟩ = some (.bool b4) ∧ w'.cell? ⟨w.heap.size + 1, 3, none⟩ = some (.slice A4 n4 c4))
  (first | (with_reducible exact ⟨x_a.drew.c0, x_a.drew.c1, x_a.drew.c2, x_a.drew.c3, x_d.drew.c0, x_d.drew.c1, x_d.drew.c2, x_d.drew.c3⟩) | (with_reducible exact ⟨x_a.c0, x_a.c1, x_a.c2, x_a.c3, x_d.c0, x_d.c1, x_d.c2, x_d.c3⟩) | (with_reducible exact ⟨(x_a.asideK (by omega)).c0, (x_a.asideK (by omega)).c1, (x_a.asideK (by omega)).c2, (x_a.asideK (by omega)).c3, (x_d.asideK (by omega)).c0, (x_d.asideK (by omega)).c1, (x_d.asideK (by omega)).c2, (x_d.asideK (by omega)).c3⟩))
  (first | (go_at_call 23; (with_reducible refine (ZAdd_any h.drw h3.drw (J + 1) (by omega) (by omega) (by omega)).mono ?_); rintro e v2 ⟨A5, n5, c5, rfl, z5, hb1⟩; replace hb1 := undrew hb1; obtain ⟨x_a, x_d, x_r, h, h2, h3, h4⟩ := mv7 hb1 x_a x_d x_r h h2 h3 h4; replace hb := bthen hb hb1; clear hb1; replace q_a := x_a.al; replace q_d := x_d.al; replace q_r := x_r.al) | (go_at_call 23; (with_reducible refine (ZAdd_any h2 h4 (J + 1) (by omega) (by omega) (by omega)).mono ?_); rintro e v3 ⟨A6, n6, c6, rfl, z6, hb1⟩; obtain ⟨x_a, x_d, x_r, h, h2, h3, h4, z5⟩ := mv8 hb1 x_a x_d x_r h h2 h3 h4 z5; replace hb := bthen hb hb1; clear hb1; replace q_a := x_a.al; replace q_d := x_d.al; replace q_r := x_r.al))
 go_wp2
 replace x_a := x_a.asideK (b' := (ngB (X + U))) (A' := A5) (n' := n5) (c' := c5) (p' := (ngB (Y + V))) (B' := A6) (m' := n6) (d' := c6) (g := w.heap.size + 1 + 1) (by omega)
 replace x_d := x_d.asideK (b' := (ngB (X + U))) (A' := A5) (n' := n5) (c' := c5) (p' := (ngB (Y + V))) (B' := A6) (m' := n6) (d' := c6) (g := w.heap.size + 1 + 1) (by omega)
 replace h := h.putK (b' := (ngB (X + U))) (A' := A5) (n' := n5) (c' := c5) (p' := (ngB (Y + V))) (B' := A6) (m' := n6) (d' := c6) x_r
 replace h2 := h2.putK (b' := (ngB (X + U))) (A' := A5) (n' := n5) (c' := c5) (p' := (ngB (Y + V))) (B' := A6) (m' := n6) (d' := c6) x_r
 replace h3 := h3.putK (b' := (ngB (X + U))) (A' := A5) (n' := n5) (c' := c5) (p' := (ngB (Y + V))) (B' := A6) (m' := n6) (d' := c6) x_r
 replace h4 := h4.putK (b' := (ngB (X + U))) (A' := A5) (n' := n5) (c' := c5) (p' := (ngB (Y + V))) (B' := A6) (m' := n6) (d' := c6) x_r
 replace z5 := z5.putK (b' := (ngB (X + U))) (A' := A5) (n' := n5) (c' := c5) (p' := (ngB (Y + V))) (B' := A6) (m' := n6) (d' := c6) x_r
 replace z6 := z6.putK (b' := (ngB (X + U))) (A' := A5) (n' := n5) (c' := c5) (p' := (ngB (Y + V))) (B' := A6) (m' := n6) (d' := c6) x_r
 replace hb := put_belowK (g := w.heap.size + 1 + 1) hb (by omega) (.bool (ngB (X + U))) (.slice A5 n5 c5) (.bool (ngB (Y + V))) (.slice A6 n6 c6)
 replace x_r := x_r.put (ngB (X + U)) A5 n5 c5 (ngB (Y + V)) A6 n6 c6
 clear q_a q_d q_r
 generalize (((v3.setCell ⟨w.heap.size + 1 + 1, 0, none⟩ (.bool (ngB (X + U)))).setCell ⟨w.heap.size + 1 + 1, 1, none⟩ (.slice A5 n5 c5)).setCell ⟨w.heap.size + 1 + 1, 2, none⟩ (.bool (ngB (Y + V)))).setCell ⟨w.heap.size + 1 + 1, 3, none⟩ (.slice A6 n6 c6) = v4 at *
 have q_a := x_a.al
 have q_d := x_d.al
 have q_r := x_r.al
 refine bodyPost_ret (v := .agg #[.bool (ngB (X + U)), .slice A5 n5 c5, .bool (ngB (Y + V)), .slice A6 n6 c6]) (by simp [results, Tryz.results236, go_sem, q_r]) rfl ?_
 exact ⟨_, _, _, _, _, _, rfl, z5, z6, hb⟩
theorem Ktimes_any (h : Zr w b A n c X J) (h2 : Zr w b2 A2 n2 c2 Y J) (h3 : Zr w b3 A3 n3 c3 U L) (hJ : J ≤ 100000) (hL : L ≤ 100000) :
  Calls Tryz.prog 234 #[.agg #[.bool b, .slice A n c, .bool b2, .slice A2 n2 c2], .agg #[.bool b3, .slice A3 n3 c3]] w (OuK w (X * U) (Y * U) (J + L)) := by
 go_enter Tryz.func234, Tryz.ntmps234
 go_wp2_with fail
 have x_a : Kx (w.alloc (.cells #[.bool b, .slice A n c, .bool b2, .slice A2 n2 c2] 190)) (w.heap.size) b A n c b2 A2 n2 c2 := by have := Kx.new w b A n c b2 A2 n2 c2; simpa using this
 replace x_a := x_a.alloc (.cells #[.bool b3, .slice A3 n3 c3] 24)
 have x_d : Bx ((w.alloc (.cells #[.bool b, .slice A n c, .bool b2, .slice A2 n2 c2] 190)).alloc (.cells #[.bool b3, .slice A3 n3 c3] 24)) (w.heap.size + 1) b3 A3 n3 c3 := by have := Bx.new (w.alloc (.cells #[.bool b, .slice A n c, .bool b2, .slice A2 n2 c2] 190)) b3 A3 n3 c3; simpa using this
 replace x_a := x_a.alloc (.cells #[.bool false, .slice none 0 0, .bool false, .slice none 0 0] 190)
 replace x_d := x_d.alloc (.cells #[.bool false, .slice none 0 0, .bool false, .slice none 0 0] 190)
 have x_r : Kx (((w.alloc (.cells #[.bool b, .slice A n c, .bool b2, .slice A2 n2 c2] 190)).alloc (.cells #[.bool b3, .slice A3 n3 c3] 24)).alloc (.cells #[.bool false, .slice none 0 0, .bool false, .slice none 0 0] 190)) (w.heap.size + 1 + 1) false none 0 0 false none 0 0 := by have := Kx.new ((w.alloc (.cells #[.bool b, .slice A n c, .bool b2, .slice A2 n2 c2] 190)).alloc (.cells #[.bool b3, .slice A3 n3 c3] 24)) false none 0 0 false none 0 0; simpa using this
 have hb : Below w.heap.size w (((w.alloc (.cells #[.bool b, .slice A n c, .bool b2, .slice A2 n2 c2] 190)).alloc (.cells #[.bool b3, .slice A3 n3 c3] 24)).alloc (.cells #[.bool false, .slice none 0 0, .bool false, .slice none 0 0] 190)) := (Below.alloc (Below.alloc (Below.alloc (Below.refl w.heap.size w) (by simp) (.cells #[.bool b, .slice A n c, .bool b2, .slice A2 n2 c2] 190)) (by simp) (.cells #[.bool b3, .slice A3 n3 c3] 24)) (by simp; omega) (.cells #[.bool false, .slice none 0 0, .bool false, .slice none 0 0] 190))
 generalize ((w.alloc (.cells #[.bool b, .slice A n c, .bool b2, .slice A2 n2 c2] 190)).alloc (.cells #[.bool b3, .slice A3 n3 c3] 24)).alloc (.cells #[.bool false, .slice none 0 0, .bool false, .slice none 0 0] 190) = v1 at *
 obtain ⟨h, h2, h3⟩ := mv3 hb h h2 h3
 have q_a := x_a.al
 have q_d := x_d.al
 have q_r := x_r.al
 go_wp2_with fail
 go_region_held3 (fun w' => w'.cell? ⟨w.heap.size, 0, none⟩ = some (.bool b) ∧ w'.cell? ⟨w.heap.size, 1, none⟩ = some (.slice A n c) ∧ w'.cell? ⟨w.heap.size, 2, none⟩ = some (.bool b2) ∧ w'.cell? ⟨w.heap.size, 3, none⟩ = some (.slice A2 n2 c2) ∧ w'.cell? ⟨w.heap.size + 1, 0, none⟩ = some (.bool b3) ∧ w'.cell? ⟨w.heap.size + 1, 1, none⟩ = some (.slice A3 n3 c3))
  (first | (with_reducible exact ⟨x_a.drew.c0, x_a.drew.c1, x_a.drew.c2, x_a.drew.c3, x_d.drew.c0, x_d.drew.c1⟩) | (with_reducible exact ⟨x_a.c0, x_a.c1, x_a.c2, x_a.c3, x_d.c0, x_d.c1⟩) | (with_reducible exact ⟨(x_a.asideK (by omega)).c0, (x_a.asideK (by omega)).c1, (x_a.asideK (by omega)).c2, (x_a.asideK (by omega)).c3, (x_d.asideK (by omega)).c0, (x_d.asideK (by omega)).c1⟩))
  (first | (go_at_call 20; (with_reducible refine (ZMul_any h.drw h3.drw (J + L) (by omega) (by omega)).mono ?_); rintro e v2 ⟨A5, n5, c5, rfl, z5, hb1⟩; replace hb1 := undrew hb1; obtain ⟨x_a, x_d, x_r, h, h2, h3⟩ := mv6 hb1 x_a x_d x_r h h2 h3; replace hb := bthen hb hb1; clear hb1; replace q_a := x_a.al; replace q_d := x_d.al; replace q_r := x_r.al) | (go_at_call 20; (with_reducible refine (ZMul_any h2 h3 (J + L) (by omega) (by omega)).mono ?_); rintro e v3 ⟨A6, n6, c6, rfl, z6, hb1⟩; obtain ⟨x_a, x_d, x_r, h, h2, h3, z5⟩ := mv7 hb1 x_a x_d x_r h h2 h3 z5; replace hb := bthen hb hb1; clear hb1; replace q_a := x_a.al; replace q_d := x_d.al; replace q_r := x_r.al))
 go_wp2
 replace x_a := x_a.asideK (b' := (ngB (X * U))) (A' := A5) (n' := n5) (c' := c5) (p' := (ngB (Y * U))) (B' := A6) (m' := n6) (d' := c6) (g := w.heap.size + 1 + 1) (by omega)
 replace x_d := x_d.asideK (b' := (ngB (X * U))) (A' := A5) (n' := n5) (c' := c5) (p' := (ngB (Y * U))) (B' := A6) (m' := n6) (d' := c6) (g := w.heap.size + 1 + 1) (by omega)
 replace h := h.putK (b' := (ngB (X * U))) (A' := A5) (n' := n5) (c' := c5) (p' := (ngB (Y * U))) (B' := A6) (m' := n6) (d' := c6) x_r
 replace h2 := h2.putK (b' := (ngB (X * U))) (A' := A5) (n' := n5) (c' := c5) (p' := (ngB (Y * U))) (B' := A6) (m' := n6) (d' := c6) x_r
 replace h3 := h3.putK (b' := (ngB (X * U))) (A' := A5) (n' := n5) (c' := c5) (p' := (ngB (Y * U))) (B' := A6) (m' := n6) (d' := c6) x_r
 replace z5 := z5.putK (b' := (ngB (X * U))) (A' := A5) (n' := n5) (c' := c5) (p' := (ngB (Y * U))) (B' := A6) (m' := n6) (d' := c6) x_r
 replace z6 := z6.putK (b' := (ngB (X * U))) (A' := A5) (n' := n5) (c' := c5) (p' := (ngB (Y * U))) (B' := A6) (m' := n6) (d' := c6) x_r
 replace hb := put_belowK (g := w.heap.size + 1 + 1) hb (by omega) (.bool (ngB (X * U))) (.slice A5 n5 c5) (.bool (ngB (Y * U))) (.slice A6 n6 c6)
 replace x_r := x_r.put (ngB (X * U)) A5 n5 c5 (ngB (Y * U)) A6 n6 c6
 clear q_a q_d q_r
 generalize (((v3.setCell ⟨w.heap.size + 1 + 1, 0, none⟩ (.bool (ngB (X * U)))).setCell ⟨w.heap.size + 1 + 1, 1, none⟩ (.slice A5 n5 c5)).setCell ⟨w.heap.size + 1 + 1, 2, none⟩ (.bool (ngB (Y * U)))).setCell ⟨w.heap.size + 1 + 1, 3, none⟩ (.slice A6 n6 c6) = v4 at *
 have q_a := x_a.al
 have q_d := x_d.al
 have q_r := x_r.al
 refine bodyPost_ret (v := .agg #[.bool (ngB (X * U)), .slice A5 n5 c5, .bool (ngB (Y * U)), .slice A6 n6 c6]) (by simp [results, Tryz.results234, go_sem, q_r]) rfl ?_
 exact ⟨_, _, _, _, _, _, rfl, z5, z6, hb⟩
theorem Kover_any (h : Zr w b A n c X J) (h2 : Zr w b2 A2 n2 c2 Y J) (h3 : Zr w b3 A3 n3 c3 U L) (hJ : J ≤ 100000) (hL : L ≤ 10000) (hJ2 : J ≤ 10000) (hU : 0 < U) :
  Calls Tryz.prog 235 #[.agg #[.bool b, .slice A n c, .bool b2, .slice A2 n2 c2], .agg #[.bool b3, .slice A3 n3 c3]] w (OuK w (X / U) (-(-Y / U)) (J + L + 2)) := by
 have HU := Lib.hid (upK (X := Y) hU)
 have hU0 : U ≠ 0 := by omega
 have HU0 := Lib.hid hU0
 clear hU hU0
 go_enter Tryz.func235, Tryz.ntmps235
 go_wp2_with fail
 have x_a : Kx (w.alloc (.cells #[.bool b, .slice A n c, .bool b2, .slice A2 n2 c2] 190)) (w.heap.size) b A n c b2 A2 n2 c2 := by have := Kx.new w b A n c b2 A2 n2 c2; simpa using this
 replace x_a := x_a.alloc (.cells #[.bool b3, .slice A3 n3 c3] 24)
 have x_d : Bx ((w.alloc (.cells #[.bool b, .slice A n c, .bool b2, .slice A2 n2 c2] 190)).alloc (.cells #[.bool b3, .slice A3 n3 c3] 24)) (w.heap.size + 1) b3 A3 n3 c3 := by have := Bx.new (w.alloc (.cells #[.bool b, .slice A n c, .bool b2, .slice A2 n2 c2] 190)) b3 A3 n3 c3; simpa using this
 replace x_a := x_a.alloc (.cells #[.bool false, .slice none 0 0, .bool false, .slice none 0 0] 190)
 replace x_d := x_d.alloc (.cells #[.bool false, .slice none 0 0, .bool false, .slice none 0 0] 190)
 have x_r : Kx (((w.alloc (.cells #[.bool b, .slice A n c, .bool b2, .slice A2 n2 c2] 190)).alloc (.cells #[.bool b3, .slice A3 n3 c3] 24)).alloc (.cells #[.bool false, .slice none 0 0, .bool false, .slice none 0 0] 190)) (w.heap.size + 1 + 1) false none 0 0 false none 0 0 := by have := Kx.new ((w.alloc (.cells #[.bool b, .slice A n c, .bool b2, .slice A2 n2 c2] 190)).alloc (.cells #[.bool b3, .slice A3 n3 c3] 24)) false none 0 0 false none 0 0; simpa using this
 have hb : Below w.heap.size w (((w.alloc (.cells #[.bool b, .slice A n c, .bool b2, .slice A2 n2 c2] 190)).alloc (.cells #[.bool b3, .slice A3 n3 c3] 24)).alloc (.cells #[.bool false, .slice none 0 0, .bool false, .slice none 0 0] 190)) := (Below.alloc (Below.alloc (Below.alloc (Below.refl w.heap.size w) (by simp) (.cells #[.bool b, .slice A n c, .bool b2, .slice A2 n2 c2] 190)) (by simp) (.cells #[.bool b3, .slice A3 n3 c3] 24)) (by simp; omega) (.cells #[.bool false, .slice none 0 0, .bool false, .slice none 0 0] 190))
 generalize ((w.alloc (.cells #[.bool b, .slice A n c, .bool b2, .slice A2 n2 c2] 190)).alloc (.cells #[.bool b3, .slice A3 n3 c3] 24)).alloc (.cells #[.bool false, .slice none 0 0, .bool false, .slice none 0 0] 190) = v1 at *
 obtain ⟨h, h2, h3⟩ := mv3 hb h h2 h3
 have q_a := x_a.al
 have q_d := x_d.al
 have q_r := x_r.al
 go_wp2_with fail
 with_reducible refine (ZDivMod_any h h3 HU0.out (J + L + 1) (by omega) (by omega) (by omega)).mono ?_
 rintro e v2 ⟨A5, n5, c5, A6, n6, c6, rfl, z5, z6, hb1⟩
 obtain ⟨x_a, x_d, x_r, h, h2, h3⟩ := mv6 hb1 x_a x_d x_r h h2 h3
 replace hb := bthen hb hb1
 clear hb1
 replace q_a := x_a.al
 replace q_d := x_d.al
 replace q_r := x_r.al
 have y_a := ((x_a.alloc (.cells #[.bool (ngB (X / U)), .slice A5 n5 c5] 24)).alloc (.cells #[.bool (ngB (X % U)), .slice A6 n6 c6] 24)); have yq_a0 := y_a.c0; have yq_a1 := y_a.c1; have yq_a2 := y_a.c2; have yq_a3 := y_a.c3
 have y_d := ((x_d.alloc (.cells #[.bool (ngB (X / U)), .slice A5 n5 c5] 24)).alloc (.cells #[.bool (ngB (X % U)), .slice A6 n6 c6] 24)); have yq_d0 := y_d.c0; have yq_d1 := y_d.c1
 have y_r := ((x_r.alloc (.cells #[.bool (ngB (X / U)), .slice A5 n5 c5] 24)).alloc (.cells #[.bool (ngB (X % U)), .slice A6 n6 c6] 24)); have yq_r0 := y_r.c0; have yq_r1 := y_r.c1; have yq_r2 := y_r.c2; have yq_r3 := y_r.c3
 go_wp2_with fail
 clear y_a yq_a0 yq_a1 yq_a2 yq_a3 y_d yq_d0 yq_d1 y_r yq_r0 yq_r1 yq_r2 yq_r3
 have l_a_l := x_a.lt
 have l_d_l := x_d.lt
 have l_r_l := x_r.lt
 have e_l : w.heap.size ≤ v2.heap.size := hb.size
 have hb1 := below_alloc2 v2 (.cells #[.bool (ngB (X / U)), .slice A5 n5 c5] 24) (.cells #[.bool (ngB (X % U)), .slice A6 n6 c6] 24)
 have x_l := (Bx.new v2 (ngB (X / U)) A5 n5 c5).alloc (.cells #[.bool (ngB (X % U)), .slice A6 n6 c6] 24)
 have x_t : Bx ((v2.alloc (.cells #[.bool (ngB (X / U)), .slice A5 n5 c5] 24)).alloc (.cells #[.bool (ngB (X % U)), .slice A6 n6 c6] 24)) (v2.heap.size + 1) (ngB (X % U)) A6 n6 c6 := by have := Bx.new (v2.alloc (.cells #[.bool (ngB (X / U)), .slice A5 n5 c5] 24)) (ngB (X % U)) A6 n6 c6; simpa using this
 clear q_a q_d q_r
 obtain ⟨x_a, x_d, x_r, h, h2, h3, z5, z6⟩ := mv8 hb1 x_a x_d x_r h h2 h3 z5 z6
 replace hb := bthen hb hb1
 clear hb1
 generalize (v2.alloc (.cells #[.bool (ngB (X / U)), .slice A5 n5 c5] 24)).alloc (.cells #[.bool (ngB (X % U)), .slice A6 n6 c6] 24) = v3 at *
 have q_a := x_a.al
 have q_d := x_d.al
 have q_r := x_r.al
 have q_l := x_l.al
 have q_t := x_t.al
 clear q_t
 clear z6
 skip
 with_reducible refine (ZUp_any h2 h3 HU0.out (J + L + 1) (by omega) (by omega) (by omega)).mono ?_
 rintro e v4 ⟨A7, n7, c7, rfl, z7, hb1⟩
 obtain ⟨x_a, x_d, x_r, x_l, x_t, h, h2, h3, z5⟩ := mv9 hb1 x_a x_d x_r x_l x_t h h2 h3 z5
 replace hb := bthen hb hb1
 clear hb1
 replace q_a := x_a.al
 replace q_d := x_d.al
 replace q_r := x_r.al
 replace q_l := x_l.al
 rw [HU.out] at z7 ⊢
 have y_a := (x_a.alloc (.cells #[.bool (ngB (-(-Y / U))), .slice A7 n7 c7] 24)); have yq_a0 := y_a.c0; have yq_a1 := y_a.c1; have yq_a2 := y_a.c2; have yq_a3 := y_a.c3
 have y_d := (x_d.alloc (.cells #[.bool (ngB (-(-Y / U))), .slice A7 n7 c7] 24)); have yq_d0 := y_d.c0; have yq_d1 := y_d.c1
 have y_r := (x_r.alloc (.cells #[.bool (ngB (-(-Y / U))), .slice A7 n7 c7] 24)); have yq_r0 := y_r.c0; have yf_r0 := y_r.fr 0; have yq_r1 := y_r.c1; have yf_r1 := y_r.fr 1; have yq_r2 := y_r.c2; have yf_r2 := y_r.fr 2; have yq_r3 := y_r.c3; have yf_r3 := y_r.fr 3
 have y_l := (x_l.alloc (.cells #[.bool (ngB (-(-Y / U))), .slice A7 n7 c7] 24)); have yq_l0 := y_l.c0; have yq_l1 := y_l.c1
 go_wp2_with fail
 clear y_a yq_a0 yq_a1 yq_a2 yq_a3 y_d yq_d0 yq_d1 y_r yq_r0 yf_r0 yq_r1 yf_r1 yq_r2 yf_r2 yq_r3 yf_r3 y_l yq_l0 yq_l1
 have hb1 := below_alloc v4 (.cells #[.bool (ngB (-(-Y / U))), .slice A7 n7 c7] 24)
 have l_a_u := x_a.lt
 have l_d_u := x_d.lt
 have l_r_u := x_r.lt
 have l_l_u := x_l.lt
 have l_t_u := x_t.lt
 have x_u := Bx.new v4 (ngB (-(-Y / U))) A7 n7 c7
 have e_u : w.heap.size ≤ v4.heap.size := hb.size
 clear q_a q_d q_r q_l
 obtain ⟨x_a, x_d, x_r, x_l, x_t, h, h2, h3, z5⟩ := mv9 hb1 x_a x_d x_r x_l x_t h h2 h3 z5
 replace z7 := z7.keep hb1
 replace hb := bthen hb hb1
 clear hb1
 generalize v4.alloc (.cells #[.bool (ngB (-(-Y / U))), .slice A7 n7 c7] 24) = v5 at *
 have q_a := x_a.al
 have q_d := x_d.al
 have q_r := x_r.al
 have q_l := x_l.al
 have q_u := x_u.al
 go_wp2
 replace x_a := x_a.asideK (b' := (ngB (X / U))) (A' := A5) (n' := n5) (c' := c5) (p' := (ngB (-(-Y / U)))) (B' := A7) (m' := n7) (d' := c7) (g := w.heap.size + 1 + 1) (by omega)
 replace x_d := x_d.asideK (b' := (ngB (X / U))) (A' := A5) (n' := n5) (c' := c5) (p' := (ngB (-(-Y / U)))) (B' := A7) (m' := n7) (d' := c7) (g := w.heap.size + 1 + 1) (by omega)
 replace x_l := x_l.asideK (b' := (ngB (X / U))) (A' := A5) (n' := n5) (c' := c5) (p' := (ngB (-(-Y / U)))) (B' := A7) (m' := n7) (d' := c7) (g := w.heap.size + 1 + 1) (by omega)
 replace x_t := x_t.asideK (b' := (ngB (X / U))) (A' := A5) (n' := n5) (c' := c5) (p' := (ngB (-(-Y / U)))) (B' := A7) (m' := n7) (d' := c7) (g := w.heap.size + 1 + 1) (by omega)
 replace x_u := x_u.asideK (b' := (ngB (X / U))) (A' := A5) (n' := n5) (c' := c5) (p' := (ngB (-(-Y / U)))) (B' := A7) (m' := n7) (d' := c7) (g := w.heap.size + 1 + 1) (by omega)
 replace h := h.putK (b' := (ngB (X / U))) (A' := A5) (n' := n5) (c' := c5) (p' := (ngB (-(-Y / U)))) (B' := A7) (m' := n7) (d' := c7) x_r
 replace h2 := h2.putK (b' := (ngB (X / U))) (A' := A5) (n' := n5) (c' := c5) (p' := (ngB (-(-Y / U)))) (B' := A7) (m' := n7) (d' := c7) x_r
 replace h3 := h3.putK (b' := (ngB (X / U))) (A' := A5) (n' := n5) (c' := c5) (p' := (ngB (-(-Y / U)))) (B' := A7) (m' := n7) (d' := c7) x_r
 replace z5 := z5.putK (b' := (ngB (X / U))) (A' := A5) (n' := n5) (c' := c5) (p' := (ngB (-(-Y / U)))) (B' := A7) (m' := n7) (d' := c7) x_r
 replace z7 := z7.putK (b' := (ngB (X / U))) (A' := A5) (n' := n5) (c' := c5) (p' := (ngB (-(-Y / U)))) (B' := A7) (m' := n7) (d' := c7) x_r
 replace hb := put_belowK (g := w.heap.size + 1 + 1) hb (by omega) (.bool (ngB (X / U))) (.slice A5 n5 c5) (.bool (ngB (-(-Y / U)))) (.slice A7 n7 c7)
 replace x_r := x_r.put (ngB (X / U)) A5 n5 c5 (ngB (-(-Y / U))) A7 n7 c7
 clear q_a q_d q_r q_l q_u
 generalize (((v5.setCell ⟨w.heap.size + 1 + 1, 0, none⟩ (.bool (ngB (X / U)))).setCell ⟨w.heap.size + 1 + 1, 1, none⟩ (.slice A5 n5 c5)).setCell ⟨w.heap.size + 1 + 1, 2, none⟩ (.bool (ngB (-(-Y / U))))).setCell ⟨w.heap.size + 1 + 1, 3, none⟩ (.slice A7 n7 c7) = v6 at *
 have q_a := x_a.al
 have q_d := x_d.al
 have q_r := x_r.al
 have q_l := x_l.al
 have q_u := x_u.al
 replace z5 := z5.wide (show J + L + 1 ≤ J + L + 2 by omega)
 go_wp2
 refine bodyPost_ret (v := .agg #[.bool (ngB (X / U)), .slice A5 n5 c5, .bool (ngB (-(-Y / U))), .slice A7 n7 c7]) (by simp [results, Tryz.results235, go_sem, q_r]) rfl ?_
 exact ⟨_, _, _, _, _, _, rfl, z5, z7, hb⟩
theorem Kends_any {P R : Int} {k : Nat} (z : Zn w A n c P k) (z2 : Zn w A2 n2 c2 R k) :
  Calls Tryz.prog 227 #[.agg #[.bool (ngB P), .slice A n c, .bool (ngB R), .slice A2 n2 c2]] w (Ou2 w P R 0 k) := by
 go_enter Tryz.func227, Tryz.ntmps227
 obtain ⟨b, hP⟩ : ∃ b, ngB P = b := ⟨_, rfl⟩
 obtain ⟨b2, hR⟩ : ∃ b, ngB R = b := ⟨_, rfl⟩
 rw [hP, hR]
 have HP := Lib.hid hP.symm; have HR := Lib.hid hR.symm; clear hP hR
 go_wp2_with fail
 have x_a : Kx (w.alloc (.cells #[.bool b, .slice A n c, .bool b2, .slice A2 n2 c2] 190)) (w.heap.size) b A n c b2 A2 n2 c2 := by have := Kx.new w b A n c b2 A2 n2 c2; simpa using this
 replace x_a := x_a.alloc (.cells #[.bool false, .slice none 0 0] 24)
 have x_r : Bx ((w.alloc (.cells #[.bool b, .slice A n c, .bool b2, .slice A2 n2 c2] 190)).alloc (.cells #[.bool false, .slice none 0 0] 24)) (w.heap.size + 1) false none 0 0 := by have := Bx.new (w.alloc (.cells #[.bool b, .slice A n c, .bool b2, .slice A2 n2 c2] 190)) false none 0 0; simpa using this
 replace x_a := x_a.alloc (.cells #[.bool false, .slice none 0 0] 24)
 replace x_r := x_r.alloc (.cells #[.bool false, .slice none 0 0] 24)
 have x_p : Bx (((w.alloc (.cells #[.bool b, .slice A n c, .bool b2, .slice A2 n2 c2] 190)).alloc (.cells #[.bool false, .slice none 0 0] 24)).alloc (.cells #[.bool false, .slice none 0 0] 24)) (w.heap.size + 1 + 1) false none 0 0 := by have := Bx.new ((w.alloc (.cells #[.bool b, .slice A n c, .bool b2, .slice A2 n2 c2] 190)).alloc (.cells #[.bool false, .slice none 0 0] 24)) false none 0 0; simpa using this
 have hb : Below w.heap.size w (((w.alloc (.cells #[.bool b, .slice A n c, .bool b2, .slice A2 n2 c2] 190)).alloc (.cells #[.bool false, .slice none 0 0] 24)).alloc (.cells #[.bool false, .slice none 0 0] 24)) := (Below.alloc (Below.alloc (Below.alloc (Below.refl w.heap.size w) (by simp) (.cells #[.bool b, .slice A n c, .bool b2, .slice A2 n2 c2] 190)) (by simp) (.cells #[.bool false, .slice none 0 0] 24)) (by simp; omega) (.cells #[.bool false, .slice none 0 0] 24))
 generalize ((w.alloc (.cells #[.bool b, .slice A n c, .bool b2, .slice A2 n2 c2] 190)).alloc (.cells #[.bool false, .slice none 0 0] 24)).alloc (.cells #[.bool false, .slice none 0 0] 24) = v1 at *
 obtain ⟨z, z2⟩ := mv2 hb z z2
 have q_a := x_a.al
 have q_r := x_r.al
 have q_p := x_p.al
 go_wp2_with fail
 go_region_held3 (fun w' => w'.cell? ⟨w.heap.size, 0, none⟩ = some (.bool b) ∧ w'.cell? ⟨w.heap.size, 1, none⟩ = some (.slice A n c) ∧ w'.cell? ⟨w.heap.size, 2, none⟩ = some (.bool b2) ∧ w'.cell? ⟨w.heap.size, 3, none⟩ = some (.slice A2 n2 c2))
  (first | (with_reducible exact ⟨x_a.drew.c0, x_a.drew.c1, x_a.drew.c2, x_a.drew.c3⟩) | (with_reducible exact ⟨(x_a.aside (by omega)).drew.c0, (x_a.aside (by omega)).drew.c1, (x_a.aside (by omega)).drew.c2, (x_a.aside (by omega)).drew.c3⟩) | (with_reducible exact ⟨((x_a.aside (by omega)).aside (by omega)).drew.c0, ((x_a.aside (by omega)).aside (by omega)).drew.c1, ((x_a.aside (by omega)).aside (by omega)).drew.c2, ((x_a.aside (by omega)).aside (by omega)).drew.c3⟩) | go_keep)
  (first | fail)
 skip
 replace x_a := x_a.aside (b' := b) (A' := A) (n' := n) (c' := c) (g := w.heap.size + 1) (by omega)
 replace x_p := x_p.aside (b' := b) (A' := A) (n' := n) (c' := c) (g := w.heap.size + 1) (by omega)
 replace z := z.put (b' := b) (A' := A) (n' := n) (c' := c) x_r
 replace z2 := z2.put (b' := b) (A' := A) (n' := n) (c' := c) x_r
 replace hb := put_below (g := w.heap.size + 1) hb (by omega) (.bool b) (.slice A n c)
 replace x_r := x_r.put b A n c
 clear q_a q_r q_p
 generalize (v1.setCell ⟨w.heap.size + 1, 0, none⟩ (.bool b)).setCell ⟨w.heap.size + 1, 1, none⟩ (.slice A n c) = v2 at *
 have q_a := x_a.al
 have q_r := x_r.al
 have q_p := x_p.al
 replace x_a := x_a.aside (b' := b2) (A' := A2) (n' := n2) (c' := c2) (g := w.heap.size + 1 + 1) (by omega)
 replace x_r := x_r.aside (b' := b2) (A' := A2) (n' := n2) (c' := c2) (g := w.heap.size + 1 + 1) (by omega)
 replace z := z.put (b' := b2) (A' := A2) (n' := n2) (c' := c2) x_p
 replace z2 := z2.put (b' := b2) (A' := A2) (n' := n2) (c' := c2) x_p
 replace hb := put_below (g := w.heap.size + 1 + 1) hb (by omega) (.bool b2) (.slice A2 n2 c2)
 replace x_p := x_p.put b2 A2 n2 c2
 clear q_a q_r q_p
 generalize (v2.setCell ⟨w.heap.size + 1 + 1, 0, none⟩ (.bool b2)).setCell ⟨w.heap.size + 1 + 1, 1, none⟩ (.slice A2 n2 c2) = v3 at *
 have q_a := x_a.al
 have q_r := x_r.al
 have q_p := x_p.al
 replace x_a := x_a.drew
 replace x_r := x_r.drew
 replace x_p := x_p.drew
 replace z := z.drw
 replace z2 := z2.drw
 replace hb := below_drew hb
 clear q_a q_r q_p
 generalize v3.drew = v4 at *
 have q_a := x_a.al
 have q_r := x_r.al
 have q_p := x_p.al
 go_wp2
 refine bodyPost_ret (v := .tuple #[.agg #[.bool b, .slice A n c], .agg #[.bool b2, .slice A2 n2 c2], .int .i64 0]) (by simp [results, Tryz.results227, go_sem, q_r, q_p]) rfl ?_
 exact ⟨_, _, _, _, _, _, by rw [HP.out, HR.out], z, z2, hb⟩
theorem Kone_any (q : Int) {w : World} :
  Calls Tryz.prog 225 #[.int .i64 q] w (OutZ w (1 * 2 ^ sc q) 129) := by
 obtain ⟨E, hE⟩ : ∃ E, (1 : Int) * 2 ^ sc q = E := ⟨_, rfl⟩
 rw [hE]
 have HE := Lib.hid hE; clear hE
 go_enter Tryz.func225, Tryz.ntmps225
 go_wp2_with fail
 have x_r : Bx (w.alloc (.cells #[.bool false, .slice none 0 0] 24)) (w.heap.size) false none 0 0 := by have := Bx.new w false none 0 0; simpa using this
 have hb : Below w.heap.size w (w.alloc (.cells #[.bool false, .slice none 0 0] 24)) := (Below.alloc (Below.refl w.heap.size w) (by simp) (.cells #[.bool false, .slice none 0 0] 24))
 generalize w.alloc (.cells #[.bool false, .slice none 0 0] 24) = v1 at *
 have q_r := x_r.al
 go_wp2_with fail
 with_reducible refine (ZOf_any 1 (by omega) (by omega)).mono ?_
 rintro e v2 ⟨A9, n9, c9, rfl, z9, hb1⟩
 replace x_r := x_r.keep hb1
 replace hb := bthen hb hb1
 clear hb1
 replace q_r := x_r.al
 go_wp2_with fail
 with_reducible refine (ZShl_any z9.zr q 129 (by omega) (by omega)).mono ?_
 rintro e v3 ⟨A8, n8, c8, rfl, z8, hb1⟩
 obtain ⟨x_r, z9⟩ := mv2 hb1 x_r z9
 replace hb := bthen hb hb1
 clear hb1
 replace q_r := x_r.al
 rw [HE.out] at z8 ⊢
 go_wp2
 replace z9 := z9.put (b' := (ngB E)) (A' := A8) (n' := n8) (c' := c8) x_r
 replace z8 := z8.put (b' := (ngB E)) (A' := A8) (n' := n8) (c' := c8) x_r
 replace hb := put_below (g := w.heap.size) hb (by omega) (.bool (ngB E)) (.slice A8 n8 c8)
 replace x_r := x_r.put (ngB E) A8 n8 c8
 clear q_r
 generalize (v3.setCell ⟨w.heap.size, 0, none⟩ (.bool (ngB E))).setCell ⟨w.heap.size, 1, none⟩ (.slice A8 n8 c8) = v4 at *
 have q_r := x_r.al
 refine bodyPost_ret (v := .agg #[.bool (ngB E), .slice A8 n8 c8]) (by simp [results, Tryz.results225, go_sem, q_r]) rfl ?_
 exact ⟨_, _, _, rfl, z8, hb⟩
theorem ent_Exp : ∀ (args : Array Value) (w : World), (callFunc 226 args).run Tryz.prog w = .ok (.enter 226 args) w := enters_of Tryz.func226 (by kernel_rfl) rfl
theorem KExpD_any {gq : Nat} {q : Int} (x_q : Cx w gq (.int .i64 q) 3) (hk : 1 ≤ k ∧ k ≤ 2000) (hq : 0 ≤ q ∧ q ≤ 1200) :
  Calls Tryz.prog 226 #[.int .i64 k, .pointer (some ⟨gq, 0, none⟩)] w (OutZ w (k * 2 ^ sc (q)) 129) := by
 go_enter Tryz.func226, Tryz.ntmps226
 have hl_q := x_q.lt
 go_wp2_with fail
 have x_r : Bx (w.alloc (.cells #[.bool false, .slice none 0 0] 24)) (w.heap.size) false none 0 0 := by have := Bx.new w false none 0 0; simpa using this
 have hb : Below w.heap.size w (w.alloc (.cells #[.bool false, .slice none 0 0] 24)) := (Below.alloc (Below.refl w.heap.size w) (by simp) (.cells #[.bool false, .slice none 0 0] 24))
 generalize w.alloc (.cells #[.bool false, .slice none 0 0] 24) = v1 at *
 replace x_q := x_q.keep hb
 have q_q := x_q.al
 have q_r := x_r.al
 go_wp2_with fail
 go_region_held3 (fun w' => w'.cell? ⟨gq, 0, none⟩ = some (.int .i64 q))
  (first | (with_reducible exact x_q.drew.c0) | (with_reducible exact x_q.c0) | (with_reducible exact (x_q.aside (by omega)).c0))
  (first | (go_at_call 22; (with_reducible refine (ZOf_any k (by omega) (by omega)).mono ?_); rintro e v2 ⟨A9, n9, c9, rfl, z9, hb1⟩; replace hb1 := undrew hb1; obtain ⟨x_q, x_r⟩ := mv2 hb1 x_q x_r; replace hb := bthen hb hb1; clear hb1; replace q_q := x_q.al; replace q_r := x_r.al) | (go_at_call 24; (with_reducible refine (ZShl_any z9.zr (q) 129 (by omega) (by omega)).mono ?_); rintro e v3 ⟨A8, n8, c8, rfl, z8, hb1⟩; obtain ⟨x_q, x_r, z9⟩ := mv3 hb1 x_q x_r z9; replace hb := bthen hb hb1; clear hb1; replace q_q := x_q.al; replace q_r := x_r.al))
 go_wp2
 replace x_q := x_q.aside (b' := (ngB (k * 2 ^ sc (q)))) (A' := A8) (n' := n8) (c' := c8) (g := w.heap.size) (by omega)
 replace z9 := z9.put (b' := (ngB (k * 2 ^ sc (q)))) (A' := A8) (n' := n8) (c' := c8) x_r
 replace z8 := z8.put (b' := (ngB (k * 2 ^ sc (q)))) (A' := A8) (n' := n8) (c' := c8) x_r
 replace hb := put_below (g := w.heap.size) hb (by omega) (.bool (ngB (k * 2 ^ sc (q)))) (.slice A8 n8 c8)
 replace x_r := x_r.put (ngB (k * 2 ^ sc (q))) A8 n8 c8
 clear q_q q_r
 generalize (v3.setCell ⟨w.heap.size, 0, none⟩ (.bool (ngB (k * 2 ^ sc (q))))).setCell ⟨w.heap.size, 1, none⟩ (.slice A8 n8 c8) = v4 at *
 have q_q := x_q.al
 have q_r := x_r.al
 refine bodyPost_ret (v := .agg #[.bool (ngB (k * 2 ^ sc (q))), .slice A8 n8 c8]) (by simp [results, Tryz.results226, go_sem, q_r]) rfl ?_
 exact ⟨_, _, _, rfl, z8, hb⟩
theorem ent_odd : ∀ (args : Array Value) (w : World), (callFunc 241 args).run Tryz.prog w = .ok (.enter 241 args) w := enters_of Tryz.func241 (by kernel_rfl) rfl
theorem KoddD_any {gs : Nat} {j : Nat} (x_q : Bx w gs (ngB X) A n c) (z : Zn w A n c X j) :
  Calls Tryz.prog 241 #[.int .i64 k, .pointer (some ⟨gs, 0, none⟩)] w (OutZ w X j) := by
 go_enter Tryz.func241, Tryz.ntmps241
 have hl_q := x_q.lt
 go_upto_region 1 with fail
 have x_r : Bx (w.alloc (.cells #[.bool false, .slice none 0 0] 24)) (w.heap.size) false none 0 0 := by have := Bx.new w false none 0 0; simpa using this
 have hb : Below w.heap.size w (w.alloc (.cells #[.bool false, .slice none 0 0] 24)) := (Below.alloc (Below.refl w.heap.size w) (by simp) (.cells #[.bool false, .slice none 0 0] 24))
 generalize w.alloc (.cells #[.bool false, .slice none 0 0] 24) = v1 at *
 obtain ⟨z, x_q⟩ := mv2 hb z x_q
 have q_q := x_q.al
 have q_r := x_r.al
 go_wp2_with fail
 replace x_q := x_q.aside (b' := (ngB X)) (A' := A) (n' := n) (c' := c) (g := w.heap.size) (by omega)
 replace z := z.put (b' := (ngB X)) (A' := A) (n' := n) (c' := c) x_r
 replace hb := put_below (g := w.heap.size) hb (by omega) (.bool (ngB X)) (.slice A n c)
 replace x_r := x_r.put (ngB X) A n c
 clear q_q q_r
 generalize (v1.setCell ⟨w.heap.size, 0, none⟩ (.bool (ngB X))).setCell ⟨w.heap.size, 1, none⟩ (.slice A n c) = v2 at *
 have q_q := x_q.al
 have q_r := x_r.al
 go_wp2
 refine bodyPost_ret (v := .agg #[.bool (ngB X), .slice A n c]) (by simp [results, Tryz.results241, go_sem, q_r]) rfl ?_
 exact ⟨_, _, _, rfl, z, hb⟩
end Go.Proofs.YtdonaominffpnaaGreatDoor
