/-
 the document's answers for ball: Div by a ball that holds 0; two balls of the very same limbs.
-/
import Derived.Test.YtiigacddjihokaaGreatDoorLrsum
import Derived.Test.YtiigacddjihokaaGreatDoorLrfloor
namespace Go.Proofs.YtiigacddjihokaaGreatDoor
open Go.RowKit
set_option linter.unusedVariables false

theorem sg_zero {U V : Int} (h : U ≤ 0 ∧ 0 ≤ V) : (sgnI U = -1 ∨ sgnI U = 0) ∧ (sgnI V = 0 ∨ sgnI V = 1) := by
 have h0 : sgnI 0 = 0 := rfl
 refine ⟨?_, ?_⟩
 ·rcases (show U < 0 ∨ U = 0 by omega) with h1 | rfl
  ·exact .inl (sgn_m h1)
  ·exact .inr h0
 ·rcases (show 0 < V ∨ V = 0 by omega) with h1 | rfl
  ·exact .inr (sgn_p h1)
  ·exact .inl h0

set_option maxRecDepth 100000 in
set_option maxHeartbeats 8000000 in
theorem RDiv_zero {b b2 b3 b4 : Bool} {A A2 A3 A4 : Option Addr} {n c n2 c2 n3 c3 n4 c4 : Nat} {X Y U V q : Int} {j j2 j3 j4 : Nat} {w : World} (h : Zr w b A n c X j) (h2 : Zr w b2 A2 n2 c2 Y j2) (h3 : Zr w b3 A3 n3 c3 U j3) (h4 : Zr w b4 A4 n4 c4 V j4) (hv : 0 ≤ q ∧ q ≤ 2048 ∧ X ≤ Y) (hv2 : U ≤ V) (h0 : U ≤ 0 ∧ 0 ≤ V) (hj : j ≤ 8) (hj2 : j2 ≤ 8) (hj3 : j3 ≤ 8) (hj4 : j4 ≤ 8) :
  Calls Tryz.prog 24 #[.agg #[.bool b, .slice A n c, .bool b2, .slice A2 n2 c2, .int .i64 q], .agg #[.bool b3, .slice A3 n3 c3, .bool b4, .slice A4 n4 c4, .int .i64 q]] w (ErrL w 2) := by
 have HM := Lib.hid (mtB_yes (r := q) ⟨hv, ⟨hv.1, hv.2.1, hv2⟩, rfl⟩)
 have hsg := sg_zero h0
 clear hv hv2 h0
 go_enter Tryz.func24, Tryz.ntmps24
 go_wp2_with fail
 have x_a : Lx (w.alloc (.cells #[.bool b, .slice A n c, .bool b2, .slice A2 n2 c2, .int .i64 q] 26)) (w.heap.size) b A n c b2 A2 n2 c2 q := by have := Lx.new w b A n c b2 A2 n2 c2 q; simpa using this
 replace x_a := x_a.alloc (.cells #[.bool b3, .slice A3 n3 c3, .bool b4, .slice A4 n4 c4, .int .i64 q] 26)
 have x_d : Lx ((w.alloc (.cells #[.bool b, .slice A n c, .bool b2, .slice A2 n2 c2, .int .i64 q] 26)).alloc (.cells #[.bool b3, .slice A3 n3 c3, .bool b4, .slice A4 n4 c4, .int .i64 q] 26)) (w.heap.size + 1) b3 A3 n3 c3 b4 A4 n4 c4 q := by have := Lx.new (w.alloc (.cells #[.bool b, .slice A n c, .bool b2, .slice A2 n2 c2, .int .i64 q] 26)) b3 A3 n3 c3 b4 A4 n4 c4 q; simpa using this
 replace x_a := x_a.alloc (.cells #[.bool false, .slice none 0 0, .bool false, .slice none 0 0, .int .i64 0] 26)
 replace x_d := x_d.alloc (.cells #[.bool false, .slice none 0 0, .bool false, .slice none 0 0, .int .i64 0] 26)
 have x_r : Lx (((w.alloc (.cells #[.bool b, .slice A n c, .bool b2, .slice A2 n2 c2, .int .i64 q] 26)).alloc (.cells #[.bool b3, .slice A3 n3 c3, .bool b4, .slice A4 n4 c4, .int .i64 q] 26)).alloc (.cells #[.bool false, .slice none 0 0, .bool false, .slice none 0 0, .int .i64 0] 26)) (w.heap.size + 1 + 1) false none 0 0 false none 0 0 0 := by have := Lx.new ((w.alloc (.cells #[.bool b, .slice A n c, .bool b2, .slice A2 n2 c2, .int .i64 q] 26)).alloc (.cells #[.bool b3, .slice A3 n3 c3, .bool b4, .slice A4 n4 c4, .int .i64 q] 26)) false none 0 0 false none 0 0 0; simpa using this
 have hb : Below w.heap.size w (((w.alloc (.cells #[.bool b, .slice A n c, .bool b2, .slice A2 n2 c2, .int .i64 q] 26)).alloc (.cells #[.bool b3, .slice A3 n3 c3, .bool b4, .slice A4 n4 c4, .int .i64 q] 26)).alloc (.cells #[.bool false, .slice none 0 0, .bool false, .slice none 0 0, .int .i64 0] 26)) := (Below.alloc (Below.alloc (Below.alloc (Below.refl w.heap.size w) (by simp) (.cells #[.bool b, .slice A n c, .bool b2, .slice A2 n2 c2, .int .i64 q] 26)) (by simp) (.cells #[.bool b3, .slice A3 n3 c3, .bool b4, .slice A4 n4 c4, .int .i64 q] 26)) (by simp; omega) (.cells #[.bool false, .slice none 0 0, .bool false, .slice none 0 0, .int .i64 0] 26))
 generalize ((w.alloc (.cells #[.bool b, .slice A n c, .bool b2, .slice A2 n2 c2, .int .i64 q] 26)).alloc (.cells #[.bool b3, .slice A3 n3 c3, .bool b4, .slice A4 n4 c4, .int .i64 q] 26)).alloc (.cells #[.bool false, .slice none 0 0, .bool false, .slice none 0 0, .int .i64 0] 26) = v1 at *
 replace h := h.keep hb
 replace h2 := h2.keep hb
 replace h3 := h3.keep hb
 replace h4 := h4.keep hb
 obtain ⟨q_a0, f_a0, q_a1, f_a1, q_a2, f_a2, q_a3, f_a3, q_a4, f_a4⟩ := x_a.al
 obtain ⟨q_d0, f_d0, q_d1, f_d1, q_d2, f_d2, q_d3, f_d3, q_d4, f_d4⟩ := x_d.al
 obtain ⟨q_r0, f_r0, q_r1, f_r1, q_r2, f_r2, q_r3, f_r3, q_r4, f_r4⟩ := x_r.al
 go_wp2_with fail
 with_reducible refine (Rboth_any h h2 h3 h4 (by omega) (by omega) (by omega) (by omega)).mono ?_
 rintro e v2 ⟨rfl, hb1⟩
 replace x_a := x_a.keep hb1
 replace x_d := x_d.keep hb1
 replace x_r := x_r.keep hb1
 replace h := h.keep hb1
 replace h2 := h2.keep hb1
 replace h3 := h3.keep hb1
 replace h4 := h4.keep hb1
 replace hb := bthen hb hb1
 clear hb1
 clear q_a0 f_a0 q_a1 f_a1 q_a2 f_a2 q_a3 f_a3 q_a4 f_a4; obtain ⟨q_a0, f_a0, q_a1, f_a1, q_a2, f_a2, q_a3, f_a3, q_a4, f_a4⟩ := x_a.al
 clear q_d0 f_d0 q_d1 f_d1 q_d2 f_d2 q_d3 f_d3 q_d4 f_d4; obtain ⟨q_d0, f_d0, q_d1, f_d1, q_d2, f_d2, q_d3, f_d3, q_d4, f_d4⟩ := x_d.al
 clear q_r0 f_r0 q_r1 f_r1 q_r2 f_r2 q_r3 f_r3 q_r4 f_r4; obtain ⟨q_r0, f_r0, q_r1, f_r1, q_r2, f_r2, q_r3, f_r3, q_r4, f_r4⟩ := x_r.al
 rw [HM.out]
 go_upto_region 4 with fail
 clear q_a0 f_a0 q_a1 f_a1 q_a2 f_a2 q_a3 f_a3 q_a4 f_a4
 clear q_r0 f_r0 q_r1 f_r1 q_r2 f_r2 q_r3 f_r3 q_r4 f_r4
 have hv0 := Below.refl v2.heap.size v2
 go_cut [31] (fun s9 wx => s9 = .bool true ∧ Below v2.heap.size v2 wx)
 case first =>
  rcases hsg with ⟨sU | sU, sV | sV⟩
  ·have HSU := Lib.hid sU; have HSV := Lib.hid sV; clear sU sV
   go_wp2_with fail
   with_reducible refine (RSignZ_any h3 (by omega)).mono ?_
   rintro e v3 ⟨rfl, hb1⟩
   replace hv0 := bthen hv0 hb1
   replace x_d := x_d.keep hb1
   replace h3 := h3.keep hb1
   replace h4 := h4.keep hb1
   replace hb := bthen hb hb1
   clear hb1
   clear q_d0 f_d0 q_d1 f_d1 q_d2 f_d2 q_d3 f_d3 q_d4 f_d4; obtain ⟨q_d0, f_d0, q_d1, f_d1, q_d2, f_d2, q_d3, f_d3, q_d4, f_d4⟩ := x_d.al
   rw [HSU.out]
   go_wp2_with fail
   with_reducible refine (RSignZ_any h4 (by omega)).mono ?_
   rintro e v4 ⟨rfl, hb1⟩
   replace hv0 := bthen hv0 hb1
   replace x_d := x_d.keep hb1
   replace h3 := h3.keep hb1
   replace h4 := h4.keep hb1
   replace hb := bthen hb hb1
   clear hb1
   clear q_d0 f_d0 q_d1 f_d1 q_d2 f_d2 q_d3 f_d3 q_d4 f_d4; obtain ⟨q_d0, f_d0, q_d1, f_d1, q_d2, f_d2, q_d3, f_d3, q_d4, f_d4⟩ := x_d.al
   rw [HSV.out]
   go_wp2_with fail
   go_meet
   exact ⟨rfl, hv0⟩
  ·have HSU := Lib.hid sU; have HSV := Lib.hid sV; clear sU sV
   go_wp2_with fail
   with_reducible refine (RSignZ_any h3 (by omega)).mono ?_
   rintro e v3 ⟨rfl, hb1⟩
   replace hv0 := bthen hv0 hb1
   replace x_d := x_d.keep hb1
   replace h3 := h3.keep hb1
   replace h4 := h4.keep hb1
   replace hb := bthen hb hb1
   clear hb1
   clear q_d0 f_d0 q_d1 f_d1 q_d2 f_d2 q_d3 f_d3 q_d4 f_d4; obtain ⟨q_d0, f_d0, q_d1, f_d1, q_d2, f_d2, q_d3, f_d3, q_d4, f_d4⟩ := x_d.al
   rw [HSU.out]
   go_wp2_with fail
   with_reducible refine (RSignZ_any h4 (by omega)).mono ?_
   rintro e v4 ⟨rfl, hb1⟩
   replace hv0 := bthen hv0 hb1
   replace x_d := x_d.keep hb1
   replace h3 := h3.keep hb1
   replace h4 := h4.keep hb1
   replace hb := bthen hb hb1
   clear hb1
   clear q_d0 f_d0 q_d1 f_d1 q_d2 f_d2 q_d3 f_d3 q_d4 f_d4; obtain ⟨q_d0, f_d0, q_d1, f_d1, q_d2, f_d2, q_d3, f_d3, q_d4, f_d4⟩ := x_d.al
   rw [HSV.out]
   go_wp2_with fail
   go_meet
   exact ⟨rfl, hv0⟩
  ·have HSU := Lib.hid sU; have HSV := Lib.hid sV; clear sU sV
   go_wp2_with fail
   with_reducible refine (RSignZ_any h3 (by omega)).mono ?_
   rintro e v3 ⟨rfl, hb1⟩
   replace hv0 := bthen hv0 hb1
   replace x_d := x_d.keep hb1
   replace h3 := h3.keep hb1
   replace h4 := h4.keep hb1
   replace hb := bthen hb hb1
   clear hb1
   clear q_d0 f_d0 q_d1 f_d1 q_d2 f_d2 q_d3 f_d3 q_d4 f_d4; obtain ⟨q_d0, f_d0, q_d1, f_d1, q_d2, f_d2, q_d3, f_d3, q_d4, f_d4⟩ := x_d.al
   rw [HSU.out]
   go_wp2_with fail
   with_reducible refine (RSignZ_any h4 (by omega)).mono ?_
   rintro e v4 ⟨rfl, hb1⟩
   replace hv0 := bthen hv0 hb1
   replace x_d := x_d.keep hb1
   replace h3 := h3.keep hb1
   replace h4 := h4.keep hb1
   replace hb := bthen hb hb1
   clear hb1
   clear q_d0 f_d0 q_d1 f_d1 q_d2 f_d2 q_d3 f_d3 q_d4 f_d4; obtain ⟨q_d0, f_d0, q_d1, f_d1, q_d2, f_d2, q_d3, f_d3, q_d4, f_d4⟩ := x_d.al
   rw [HSV.out]
   go_wp2_with fail
   go_meet
   exact ⟨rfl, hv0⟩
  ·have HSU := Lib.hid sU; have HSV := Lib.hid sV; clear sU sV
   go_wp2_with fail
   with_reducible refine (RSignZ_any h3 (by omega)).mono ?_
   rintro e v3 ⟨rfl, hb1⟩
   replace hv0 := bthen hv0 hb1
   replace x_d := x_d.keep hb1
   replace h3 := h3.keep hb1
   replace h4 := h4.keep hb1
   replace hb := bthen hb hb1
   clear hb1
   clear q_d0 f_d0 q_d1 f_d1 q_d2 f_d2 q_d3 f_d3 q_d4 f_d4; obtain ⟨q_d0, f_d0, q_d1, f_d1, q_d2, f_d2, q_d3, f_d3, q_d4, f_d4⟩ := x_d.al
   rw [HSU.out]
   go_wp2_with fail
   with_reducible refine (RSignZ_any h4 (by omega)).mono ?_
   rintro e v4 ⟨rfl, hb1⟩
   replace hv0 := bthen hv0 hb1
   replace x_d := x_d.keep hb1
   replace h3 := h3.keep hb1
   replace h4 := h4.keep hb1
   replace hb := bthen hb hb1
   clear hb1
   clear q_d0 f_d0 q_d1 f_d1 q_d2 f_d2 q_d3 f_d3 q_d4 f_d4; obtain ⟨q_d0, f_d0, q_d1, f_d1, q_d2, f_d2, q_d3, f_d3, q_d4, f_d4⟩ := x_d.al
   rw [HSV.out]
   go_wp2_with fail
   go_meet
   exact ⟨rfl, hv0⟩
 obtain ⟨rfl, hb1⟩ := hcut
 clear hv0 hsg
 replace x_a := x_a.keep hb1
 replace x_d := x_d.keep hb1
 replace x_r := x_r.keep hb1
 replace h := h.keep hb1
 replace h2 := h2.keep hb1
 replace h3 := h3.keep hb1
 replace h4 := h4.keep hb1
 replace hb := bthen hb hb1
 clear hb1
 clear q_d0 f_d0 q_d1 f_d1 q_d2 f_d2 q_d3 f_d3 q_d4 f_d4; obtain ⟨q_d0, f_d0, q_d1, f_d1, q_d2, f_d2, q_d3, f_d3, q_d4, f_d4⟩ := x_d.al
 clear q_d0 f_d0 q_d1 f_d1 q_d2 f_d2 q_d3 f_d3 q_d4 f_d4
 generalize wc = vT at *
 obtain ⟨q_r0, f_r0, q_r1, f_r1, q_r2, f_r2, q_r3, f_r3, q_r4, f_r4⟩ := x_r.al
 go_wp2_with fail
 go_wp2
 replace x_a := x_a.asideL (b' := false) (A' := none) (n' := 0) (c' := 0) (p' := false) (B' := none) (m' := 0) (d' := 0) (e' := 0) (g := w.heap.size + 1 + 1) (by omega)
 replace x_d := x_d.asideL (b' := false) (A' := none) (n' := 0) (c' := 0) (p' := false) (B' := none) (m' := 0) (d' := 0) (e' := 0) (g := w.heap.size + 1 + 1) (by omega)
 replace h := h.putL (b' := false) (A' := none) (n' := 0) (c' := 0) (p' := false) (B' := none) (m' := 0) (d' := 0) (e' := 0) x_r
 replace h2 := h2.putL (b' := false) (A' := none) (n' := 0) (c' := 0) (p' := false) (B' := none) (m' := 0) (d' := 0) (e' := 0) x_r
 replace h3 := h3.putL (b' := false) (A' := none) (n' := 0) (c' := 0) (p' := false) (B' := none) (m' := 0) (d' := 0) (e' := 0) x_r
 replace h4 := h4.putL (b' := false) (A' := none) (n' := 0) (c' := 0) (p' := false) (B' := none) (m' := 0) (d' := 0) (e' := 0) x_r
 replace hb := put_belowL (g := w.heap.size + 1 + 1) hb (by omega) (.bool false) (.slice none 0 0) (.bool false) (.slice none 0 0) (.int .i64 0)
 replace x_r := x_r.put false none 0 0 false none 0 0 0
 clear q_r0 f_r0 q_r1 f_r1 q_r2 f_r2 q_r3 f_r3 q_r4 f_r4
 generalize ((((vT.setCell ⟨w.heap.size + 1 + 1, 0, none⟩ (.bool false)).setCell ⟨w.heap.size + 1 + 1, 1, none⟩ (.slice none 0 0)).setCell ⟨w.heap.size + 1 + 1, 2, none⟩ (.bool false)).setCell ⟨w.heap.size + 1 + 1, 3, none⟩ (.slice none 0 0)).setCell ⟨w.heap.size + 1 + 1, 4, none⟩ (.int .i64 0) = v3 at *
 obtain ⟨q_r0, f_r0, q_r1, f_r1, q_r2, f_r2, q_r3, f_r3, q_r4, f_r4⟩ := x_r.al
 refine bodyPost_ret (v := .tuple #[.agg #[.bool false, .slice none 0 0, .bool false, .slice none 0 0, .int .i64 0], .int .i64 2]) (by simp [results, Tryz.results24, go_sem, q_r0, q_r1, q_r2, q_r3, q_r4]) rfl ?_
 exact ⟨rfl, hb⟩

set_option maxRecDepth 100000 in
set_option maxHeartbeats 1000000 in
theorem REqual_raw {b : Bool} {A A2 : Option Addr} {n c n2 c2 : Nat} {l : List Int} {w : World} (h : Rd w w.heap.size A n c l) (h2 : Rd w w.heap.size A2 n2 c2 l) :
  Calls Tryz.prog 74 #[.agg #[.bool b, .slice A n c], .agg #[.bool b, .slice A2 n2 c2]] w fun e w' => e = .returned (.bool true) ∧ Below w.heap.size w w' := by
 go_enter Tryz.func74, Tryz.ntmps74
 go_wp2_with fail
 have x_a : Bx (w.alloc (.cells #[.bool b, .slice A n c] 24)) (w.heap.size) b A n c := by have := Bx.new w b A n c; simpa using this
 replace x_a := x_a.alloc (.cells #[.bool b, .slice A2 n2 c2] 24)
 have x_b : Bx ((w.alloc (.cells #[.bool b, .slice A n c] 24)).alloc (.cells #[.bool b, .slice A2 n2 c2] 24)) (w.heap.size + 1) b A2 n2 c2 := by have := Bx.new (w.alloc (.cells #[.bool b, .slice A n c] 24)) b A2 n2 c2; simpa using this
 have hb : Below w.heap.size w ((w.alloc (.cells #[.bool b, .slice A n c] 24)).alloc (.cells #[.bool b, .slice A2 n2 c2] 24)) := (Below.alloc (Below.alloc (Below.refl w.heap.size w) (by simp) (.cells #[.bool b, .slice A n c] 24)) (by simp) (.cells #[.bool b, .slice A2 n2 c2] 24))
 generalize (w.alloc (.cells #[.bool b, .slice A n c] 24)).alloc (.cells #[.bool b, .slice A2 n2 c2] 24) = v1 at *
 replace h := h.go hb
 replace h2 := h2.go hb
 obtain ⟨q_a0, f_a0, q_a1, f_a1⟩ := x_a.al
 obtain ⟨q_b0, f_b0, q_b1, f_b1⟩ := x_b.al
 refine (Same_any _ _ _ _ _ _ _ _ _ _ h h2).mono ?_
 rintro e v9 ⟨rfl, hq⟩
 rw [sameB_self]
 have hb1 := hq.bel; clear hq
 replace x_a := x_a.keep hb1
 replace x_b := x_b.keep hb1
 replace h := h.go hb1
 replace h2 := h2.go hb1
 replace hb := bthen hb hb1
 clear hb1
 clear q_a0 f_a0 q_a1 f_a1; obtain ⟨q_a0, f_a0, q_a1, f_a1⟩ := x_a.al
 clear q_b0 f_b0 q_b1 f_b1; obtain ⟨q_b0, f_b0, q_b1, f_b1⟩ := x_b.al
 go_wp2
 go_ret
 exact ⟨by simp, hb⟩

set_option maxRecDepth 100000 in
set_option maxHeartbeats 2000000 in
theorem Lequal_raw {b b2 : Bool} {A A2 A3 A4 : Option Addr} {n c n2 c2 n3 c3 n4 c4 : Nat} {l l2 : List Int} {q : Int} {w : World} (h : Rd w w.heap.size A n c l) (h2 : Rd w w.heap.size A2 n2 c2 l2) (h3 : Rd w w.heap.size A3 n3 c3 l) (h4 : Rd w w.heap.size A4 n4 c4 l2) :
  Calls Tryz.prog 25 #[.agg #[.bool b, .slice A n c, .bool b2, .slice A2 n2 c2, .int .i64 q], .agg #[.bool b, .slice A3 n3 c3, .bool b2, .slice A4 n4 c4, .int .i64 q]] w fun e w' => e = .returned (.bool true) ∧ Below w.heap.size w w' := by
 go_enter Tryz.func25, Tryz.ntmps25
 go_wp2_with fail
 have x_a : Lx (w.alloc (.cells #[.bool b, .slice A n c, .bool b2, .slice A2 n2 c2, .int .i64 q] 26)) (w.heap.size) b A n c b2 A2 n2 c2 q := by have := Lx.new w b A n c b2 A2 n2 c2 q; simpa using this
 replace x_a := x_a.alloc (.cells #[.bool b, .slice A3 n3 c3, .bool b2, .slice A4 n4 c4, .int .i64 q] 26)
 have x_d : Lx ((w.alloc (.cells #[.bool b, .slice A n c, .bool b2, .slice A2 n2 c2, .int .i64 q] 26)).alloc (.cells #[.bool b, .slice A3 n3 c3, .bool b2, .slice A4 n4 c4, .int .i64 q] 26)) (w.heap.size + 1) b A3 n3 c3 b2 A4 n4 c4 q := by have := Lx.new (w.alloc (.cells #[.bool b, .slice A n c, .bool b2, .slice A2 n2 c2, .int .i64 q] 26)) b A3 n3 c3 b2 A4 n4 c4 q; simpa using this
 have hb : Below w.heap.size w ((w.alloc (.cells #[.bool b, .slice A n c, .bool b2, .slice A2 n2 c2, .int .i64 q] 26)).alloc (.cells #[.bool b, .slice A3 n3 c3, .bool b2, .slice A4 n4 c4, .int .i64 q] 26)) := (Below.alloc (Below.alloc (Below.refl w.heap.size w) (by simp) (.cells #[.bool b, .slice A n c, .bool b2, .slice A2 n2 c2, .int .i64 q] 26)) (by simp) (.cells #[.bool b, .slice A3 n3 c3, .bool b2, .slice A4 n4 c4, .int .i64 q] 26))
 generalize (w.alloc (.cells #[.bool b, .slice A n c, .bool b2, .slice A2 n2 c2, .int .i64 q] 26)).alloc (.cells #[.bool b, .slice A3 n3 c3, .bool b2, .slice A4 n4 c4, .int .i64 q] 26) = v1 at *
 replace h := h.go hb
 replace h2 := h2.go hb
 replace h3 := h3.go hb
 replace h4 := h4.go hb
 obtain ⟨q_a0, f_a0, q_a1, f_a1, q_a2, f_a2, q_a3, f_a3, q_a4, f_a4⟩ := x_a.al
 obtain ⟨q_d0, f_d0, q_d1, f_d1, q_d2, f_d2, q_d3, f_d3, q_d4, f_d4⟩ := x_d.al
 go_wp2_with fail
 with_reducible refine (REqual_raw h h3).mono ?_
 rintro e v2 ⟨rfl, hb1⟩
 replace x_a := x_a.keep hb1
 replace x_d := x_d.keep hb1
 replace h := h.go hb1
 replace h2 := h2.go hb1
 replace h3 := h3.go hb1
 replace h4 := h4.go hb1
 replace hb := bthen hb hb1
 clear hb1
 clear q_a0 f_a0 q_a1 f_a1 q_a2 f_a2 q_a3 f_a3 q_a4 f_a4; obtain ⟨q_a0, f_a0, q_a1, f_a1, q_a2, f_a2, q_a3, f_a3, q_a4, f_a4⟩ := x_a.al
 clear q_d0 f_d0 q_d1 f_d1 q_d2 f_d2 q_d3 f_d3 q_d4 f_d4; obtain ⟨q_d0, f_d0, q_d1, f_d1, q_d2, f_d2, q_d3, f_d3, q_d4, f_d4⟩ := x_d.al
 go_wp2_with fail
 with_reducible refine (REqual_raw h2 h4).mono ?_
 rintro e v3 ⟨rfl, hb1⟩
 replace x_a := x_a.keep hb1
 replace x_d := x_d.keep hb1
 replace h := h.go hb1
 replace h2 := h2.go hb1
 replace h3 := h3.go hb1
 replace h4 := h4.go hb1
 replace hb := bthen hb hb1
 clear hb1
 clear q_a0 f_a0 q_a1 f_a1 q_a2 f_a2 q_a3 f_a3 q_a4 f_a4; obtain ⟨q_a0, f_a0, q_a1, f_a1, q_a2, f_a2, q_a3, f_a3, q_a4, f_a4⟩ := x_a.al
 clear q_d0 f_d0 q_d1 f_d1 q_d2 f_d2 q_d3 f_d3 q_d4 f_d4; obtain ⟨q_d0, f_d0, q_d1, f_d1, q_d2, f_d2, q_d3, f_d3, q_d4, f_d4⟩ := x_d.al
 go_wp2
 go_ret
 exact ⟨by simp, hb⟩

end Go.Proofs.YtiigacddjihokaaGreatDoor
