/-
 the document's answers for ball: Add, Sub, Mul.
-/
import Derived.Test.YtiigacddjihokaaGreatDoorLleast
import Derived.Test.YtiigacddjihokaaGreatDoorLrdn
import Derived.Test.YtiigacddjihokaaGreatDoorLcomb
namespace Go.Proofs.YtiigacddjihokaaGreatDoor
open Go.RowKit
set_option linter.unusedVariables false

set_option maxRecDepth 100000 in
set_option maxHeartbeats 4000000 in
theorem Rboth_any {b b2 b3 b4 : Bool} {A A2 A3 A4 : Option Addr} {n c n2 c2 n3 c3 n4 c4 : Nat} {X Y U V q r : Int} {j j2 j3 j4 : Nat} {w : World} (h : Zr w b A n c X j) (h2 : Zr w b2 A2 n2 c2 Y j2) (h3 : Zr w b3 A3 n3 c3 U j3) (h4 : Zr w b4 A4 n4 c4 V j4) (hj : j ≤ 1000) (hj2 : j2 ≤ 1000) (hj3 : j3 ≤ 1000) (hj4 : j4 ≤ 1000) :
  Calls Tryz.prog 54 #[.agg #[.bool b, .slice A n c, .bool b2, .slice A2 n2 c2, .int .i64 q], .agg #[.bool b3, .slice A3 n3 c3, .bool b4, .slice A4 n4 c4, .int .i64 r]] w fun e w' => e = .returned (.bool (mtB X Y q U V r)) ∧ Below w.heap.size w w' := by
 rcases (show (¬ (0 ≤ q ∧ q ≤ 2048 ∧ X ≤ Y)) ∨ ((0 ≤ q ∧ q ≤ 2048 ∧ X ≤ Y) ∧ ¬ (0 ≤ r ∧ r ≤ 2048 ∧ U ≤ V)) ∨ ((0 ≤ q ∧ q ≤ 2048 ∧ X ≤ Y) ∧ (0 ≤ r ∧ r ≤ 2048 ∧ U ≤ V) ∧ q = r) ∨ ((0 ≤ q ∧ q ≤ 2048 ∧ X ≤ Y) ∧ (0 ≤ r ∧ r ≤ 2048 ∧ U ≤ V) ∧ ¬ q = r) by omega) with hr | ⟨hr, hs⟩ | ⟨hr, hs, hqr⟩ | ⟨hr, hs, hqr⟩
 ·have HF : Hid (mtB X Y q U V r = false) := Lib.hid (mtB_no (fun hc => hr hc.1))
  have HR := Lib.hid (rB_no hr)
  obtain ⟨T9, hT9⟩ : ∃ T, rB U V r = T := ⟨_, rfl⟩
  have HS := Lib.hid hT9; clear hT9 hr
  go_enter Tryz.func54, Tryz.ntmps54
  go_wp2_with fail
  have x_a : Lx (w.alloc (.cells #[.bool b, .slice A n c, .bool b2, .slice A2 n2 c2, .int .i64 q] 26)) (w.heap.size) b A n c b2 A2 n2 c2 q := by have := Lx.new w b A n c b2 A2 n2 c2 q; simpa using this
  replace x_a := x_a.alloc (.cells #[.bool b3, .slice A3 n3 c3, .bool b4, .slice A4 n4 c4, .int .i64 r] 26)
  have x_d : Lx ((w.alloc (.cells #[.bool b, .slice A n c, .bool b2, .slice A2 n2 c2, .int .i64 q] 26)).alloc (.cells #[.bool b3, .slice A3 n3 c3, .bool b4, .slice A4 n4 c4, .int .i64 r] 26)) (w.heap.size + 1) b3 A3 n3 c3 b4 A4 n4 c4 r := by have := Lx.new (w.alloc (.cells #[.bool b, .slice A n c, .bool b2, .slice A2 n2 c2, .int .i64 q] 26)) b3 A3 n3 c3 b4 A4 n4 c4 r; simpa using this
  have hb : Below w.heap.size w ((w.alloc (.cells #[.bool b, .slice A n c, .bool b2, .slice A2 n2 c2, .int .i64 q] 26)).alloc (.cells #[.bool b3, .slice A3 n3 c3, .bool b4, .slice A4 n4 c4, .int .i64 r] 26)) := (Below.alloc (Below.alloc (Below.refl w.heap.size w) (by simp) (.cells #[.bool b, .slice A n c, .bool b2, .slice A2 n2 c2, .int .i64 q] 26)) (by simp) (.cells #[.bool b3, .slice A3 n3 c3, .bool b4, .slice A4 n4 c4, .int .i64 r] 26))
  generalize (w.alloc (.cells #[.bool b, .slice A n c, .bool b2, .slice A2 n2 c2, .int .i64 q] 26)).alloc (.cells #[.bool b3, .slice A3 n3 c3, .bool b4, .slice A4 n4 c4, .int .i64 r] 26) = v1 at *
  replace h := h.keep hb
  replace h2 := h2.keep hb
  replace h3 := h3.keep hb
  replace h4 := h4.keep hb
  obtain ⟨q_a0, f_a0, q_a1, f_a1, q_a2, f_a2, q_a3, f_a3, q_a4, f_a4⟩ := x_a.al
  obtain ⟨q_d0, f_d0, q_d1, f_d1, q_d2, f_d2, q_d3, f_d3, q_d4, f_d4⟩ := x_d.al
  go_wp2_with fail
  with_reducible refine (RRight_any h h2 (by omega) (by omega)).mono ?_
  rintro e v2 ⟨rfl, hb1⟩
  replace x_a := x_a.keep hb1
  replace x_d := x_d.keep hb1
  replace h := h.keep hb1
  replace h2 := h2.keep hb1
  replace h3 := h3.keep hb1
  replace h4 := h4.keep hb1
  replace hb := bthen hb hb1
  clear hb1
  clear q_a0 f_a0 q_a1 f_a1 q_a2 f_a2 q_a3 f_a3 q_a4 f_a4; obtain ⟨q_a0, f_a0, q_a1, f_a1, q_a2, f_a2, q_a3, f_a3, q_a4, f_a4⟩ := x_a.al
  clear q_d0 f_d0 q_d1 f_d1 q_d2 f_d2 q_d3 f_d3 q_d4 f_d4; obtain ⟨q_d0, f_d0, q_d1, f_d1, q_d2, f_d2, q_d3, f_d3, q_d4, f_d4⟩ := x_d.al
  rw [HR.out]
  go_wp2_with fail
  with_reducible refine (RRight_any h3 h4 (by omega) (by omega)).mono ?_
  rintro e v3 ⟨rfl, hb1⟩
  replace x_a := x_a.keep hb1
  replace x_d := x_d.keep hb1
  replace h := h.keep hb1
  replace h2 := h2.keep hb1
  replace h3 := h3.keep hb1
  replace h4 := h4.keep hb1
  replace hb := bthen hb hb1
  clear hb1
  clear q_a0 f_a0 q_a1 f_a1 q_a2 f_a2 q_a3 f_a3 q_a4 f_a4; obtain ⟨q_a0, f_a0, q_a1, f_a1, q_a2, f_a2, q_a3, f_a3, q_a4, f_a4⟩ := x_a.al
  clear q_d0 f_d0 q_d1 f_d1 q_d2 f_d2 q_d3 f_d3 q_d4 f_d4; obtain ⟨q_d0, f_d0, q_d1, f_d1, q_d2, f_d2, q_d3, f_d3, q_d4, f_d4⟩ := x_d.al
  rw [HS.out]
  go_wp2
  go_ret
  exact ⟨qB_bool HF.out.symm, hb⟩
 ·have HF : Hid (mtB X Y q U V r = false) := Lib.hid (mtB_no (fun hc => hs hc.2.1))
  have HR := Lib.hid (rB_yes hr)
  have HS := Lib.hid (rB_no hs)
  clear hr hs
  go_enter Tryz.func54, Tryz.ntmps54
  go_wp2_with fail
  have x_a : Lx (w.alloc (.cells #[.bool b, .slice A n c, .bool b2, .slice A2 n2 c2, .int .i64 q] 26)) (w.heap.size) b A n c b2 A2 n2 c2 q := by have := Lx.new w b A n c b2 A2 n2 c2 q; simpa using this
  replace x_a := x_a.alloc (.cells #[.bool b3, .slice A3 n3 c3, .bool b4, .slice A4 n4 c4, .int .i64 r] 26)
  have x_d : Lx ((w.alloc (.cells #[.bool b, .slice A n c, .bool b2, .slice A2 n2 c2, .int .i64 q] 26)).alloc (.cells #[.bool b3, .slice A3 n3 c3, .bool b4, .slice A4 n4 c4, .int .i64 r] 26)) (w.heap.size + 1) b3 A3 n3 c3 b4 A4 n4 c4 r := by have := Lx.new (w.alloc (.cells #[.bool b, .slice A n c, .bool b2, .slice A2 n2 c2, .int .i64 q] 26)) b3 A3 n3 c3 b4 A4 n4 c4 r; simpa using this
  have hb : Below w.heap.size w ((w.alloc (.cells #[.bool b, .slice A n c, .bool b2, .slice A2 n2 c2, .int .i64 q] 26)).alloc (.cells #[.bool b3, .slice A3 n3 c3, .bool b4, .slice A4 n4 c4, .int .i64 r] 26)) := (Below.alloc (Below.alloc (Below.refl w.heap.size w) (by simp) (.cells #[.bool b, .slice A n c, .bool b2, .slice A2 n2 c2, .int .i64 q] 26)) (by simp) (.cells #[.bool b3, .slice A3 n3 c3, .bool b4, .slice A4 n4 c4, .int .i64 r] 26))
  generalize (w.alloc (.cells #[.bool b, .slice A n c, .bool b2, .slice A2 n2 c2, .int .i64 q] 26)).alloc (.cells #[.bool b3, .slice A3 n3 c3, .bool b4, .slice A4 n4 c4, .int .i64 r] 26) = v1 at *
  replace h := h.keep hb
  replace h2 := h2.keep hb
  replace h3 := h3.keep hb
  replace h4 := h4.keep hb
  obtain ⟨q_a0, f_a0, q_a1, f_a1, q_a2, f_a2, q_a3, f_a3, q_a4, f_a4⟩ := x_a.al
  obtain ⟨q_d0, f_d0, q_d1, f_d1, q_d2, f_d2, q_d3, f_d3, q_d4, f_d4⟩ := x_d.al
  go_wp2_with fail
  with_reducible refine (RRight_any h h2 (by omega) (by omega)).mono ?_
  rintro e v2 ⟨rfl, hb1⟩
  replace x_a := x_a.keep hb1
  replace x_d := x_d.keep hb1
  replace h := h.keep hb1
  replace h2 := h2.keep hb1
  replace h3 := h3.keep hb1
  replace h4 := h4.keep hb1
  replace hb := bthen hb hb1
  clear hb1
  clear q_a0 f_a0 q_a1 f_a1 q_a2 f_a2 q_a3 f_a3 q_a4 f_a4; obtain ⟨q_a0, f_a0, q_a1, f_a1, q_a2, f_a2, q_a3, f_a3, q_a4, f_a4⟩ := x_a.al
  clear q_d0 f_d0 q_d1 f_d1 q_d2 f_d2 q_d3 f_d3 q_d4 f_d4; obtain ⟨q_d0, f_d0, q_d1, f_d1, q_d2, f_d2, q_d3, f_d3, q_d4, f_d4⟩ := x_d.al
  rw [HR.out]
  go_wp2_with fail
  with_reducible refine (RRight_any h3 h4 (by omega) (by omega)).mono ?_
  rintro e v3 ⟨rfl, hb1⟩
  replace x_a := x_a.keep hb1
  replace x_d := x_d.keep hb1
  replace h := h.keep hb1
  replace h2 := h2.keep hb1
  replace h3 := h3.keep hb1
  replace h4 := h4.keep hb1
  replace hb := bthen hb hb1
  clear hb1
  clear q_a0 f_a0 q_a1 f_a1 q_a2 f_a2 q_a3 f_a3 q_a4 f_a4; obtain ⟨q_a0, f_a0, q_a1, f_a1, q_a2, f_a2, q_a3, f_a3, q_a4, f_a4⟩ := x_a.al
  clear q_d0 f_d0 q_d1 f_d1 q_d2 f_d2 q_d3 f_d3 q_d4 f_d4; obtain ⟨q_d0, f_d0, q_d1, f_d1, q_d2, f_d2, q_d3, f_d3, q_d4, f_d4⟩ := x_d.al
  rw [HS.out]
  go_wp2
  go_ret
  exact ⟨qB_bool HF.out.symm, hb⟩
 ·have HF : Hid (mtB X Y q U V r = true) := Lib.hid (mtB_yes ⟨hr, hs, hqr⟩)
  have HR := Lib.hid (rB_yes hr)
  have HS := Lib.hid (rB_yes hs)
  have HQ := Lib.hid hqr
  have hbe : (q == r) = true := by rw [hqr]; exact beq_self_eq_true r
  clear hr hs hqr
  go_enter Tryz.func54, Tryz.ntmps54
  go_wp2_with fail
  have x_a : Lx (w.alloc (.cells #[.bool b, .slice A n c, .bool b2, .slice A2 n2 c2, .int .i64 q] 26)) (w.heap.size) b A n c b2 A2 n2 c2 q := by have := Lx.new w b A n c b2 A2 n2 c2 q; simpa using this
  replace x_a := x_a.alloc (.cells #[.bool b3, .slice A3 n3 c3, .bool b4, .slice A4 n4 c4, .int .i64 r] 26)
  have x_d : Lx ((w.alloc (.cells #[.bool b, .slice A n c, .bool b2, .slice A2 n2 c2, .int .i64 q] 26)).alloc (.cells #[.bool b3, .slice A3 n3 c3, .bool b4, .slice A4 n4 c4, .int .i64 r] 26)) (w.heap.size + 1) b3 A3 n3 c3 b4 A4 n4 c4 r := by have := Lx.new (w.alloc (.cells #[.bool b, .slice A n c, .bool b2, .slice A2 n2 c2, .int .i64 q] 26)) b3 A3 n3 c3 b4 A4 n4 c4 r; simpa using this
  have hb : Below w.heap.size w ((w.alloc (.cells #[.bool b, .slice A n c, .bool b2, .slice A2 n2 c2, .int .i64 q] 26)).alloc (.cells #[.bool b3, .slice A3 n3 c3, .bool b4, .slice A4 n4 c4, .int .i64 r] 26)) := (Below.alloc (Below.alloc (Below.refl w.heap.size w) (by simp) (.cells #[.bool b, .slice A n c, .bool b2, .slice A2 n2 c2, .int .i64 q] 26)) (by simp) (.cells #[.bool b3, .slice A3 n3 c3, .bool b4, .slice A4 n4 c4, .int .i64 r] 26))
  generalize (w.alloc (.cells #[.bool b, .slice A n c, .bool b2, .slice A2 n2 c2, .int .i64 q] 26)).alloc (.cells #[.bool b3, .slice A3 n3 c3, .bool b4, .slice A4 n4 c4, .int .i64 r] 26) = v1 at *
  replace h := h.keep hb
  replace h2 := h2.keep hb
  replace h3 := h3.keep hb
  replace h4 := h4.keep hb
  obtain ⟨q_a0, f_a0, q_a1, f_a1, q_a2, f_a2, q_a3, f_a3, q_a4, f_a4⟩ := x_a.al
  obtain ⟨q_d0, f_d0, q_d1, f_d1, q_d2, f_d2, q_d3, f_d3, q_d4, f_d4⟩ := x_d.al
  go_wp2_with fail
  with_reducible refine (RRight_any h h2 (by omega) (by omega)).mono ?_
  rintro e v2 ⟨rfl, hb1⟩
  replace x_a := x_a.keep hb1
  replace x_d := x_d.keep hb1
  replace h := h.keep hb1
  replace h2 := h2.keep hb1
  replace h3 := h3.keep hb1
  replace h4 := h4.keep hb1
  replace hb := bthen hb hb1
  clear hb1
  clear q_a0 f_a0 q_a1 f_a1 q_a2 f_a2 q_a3 f_a3 q_a4 f_a4; obtain ⟨q_a0, f_a0, q_a1, f_a1, q_a2, f_a2, q_a3, f_a3, q_a4, f_a4⟩ := x_a.al
  clear q_d0 f_d0 q_d1 f_d1 q_d2 f_d2 q_d3 f_d3 q_d4 f_d4; obtain ⟨q_d0, f_d0, q_d1, f_d1, q_d2, f_d2, q_d3, f_d3, q_d4, f_d4⟩ := x_d.al
  rw [HR.out]
  go_wp2_with fail
  with_reducible refine (RRight_any h3 h4 (by omega) (by omega)).mono ?_
  rintro e v3 ⟨rfl, hb1⟩
  replace x_a := x_a.keep hb1
  replace x_d := x_d.keep hb1
  replace h := h.keep hb1
  replace h2 := h2.keep hb1
  replace h3 := h3.keep hb1
  replace h4 := h4.keep hb1
  replace hb := bthen hb hb1
  clear hb1
  clear q_a0 f_a0 q_a1 f_a1 q_a2 f_a2 q_a3 f_a3 q_a4 f_a4; obtain ⟨q_a0, f_a0, q_a1, f_a1, q_a2, f_a2, q_a3, f_a3, q_a4, f_a4⟩ := x_a.al
  clear q_d0 f_d0 q_d1 f_d1 q_d2 f_d2 q_d3 f_d3 q_d4 f_d4; obtain ⟨q_d0, f_d0, q_d1, f_d1, q_d2, f_d2, q_d3, f_d3, q_d4, f_d4⟩ := x_d.al
  rw [HS.out]
  go_wp2
  go_ret
  first | exact ⟨qB_bool HF.out.symm, hb⟩ | exact ⟨qB_bool ((by simp [HQ.out] : _ = true).trans HF.out.symm), hb⟩
 ·have HF : Hid (mtB X Y q U V r = false) := Lib.hid (mtB_no (fun hc => hqr hc.2.2))
  have HR := Lib.hid (rB_yes hr)
  have HS := Lib.hid (rB_yes hs)
  have HQ := Lib.hid hqr
  have hbe : (q == r) = false := by simpa using hqr
  clear hr hs hqr
  go_enter Tryz.func54, Tryz.ntmps54
  go_wp2_with fail
  have x_a : Lx (w.alloc (.cells #[.bool b, .slice A n c, .bool b2, .slice A2 n2 c2, .int .i64 q] 26)) (w.heap.size) b A n c b2 A2 n2 c2 q := by have := Lx.new w b A n c b2 A2 n2 c2 q; simpa using this
  replace x_a := x_a.alloc (.cells #[.bool b3, .slice A3 n3 c3, .bool b4, .slice A4 n4 c4, .int .i64 r] 26)
  have x_d : Lx ((w.alloc (.cells #[.bool b, .slice A n c, .bool b2, .slice A2 n2 c2, .int .i64 q] 26)).alloc (.cells #[.bool b3, .slice A3 n3 c3, .bool b4, .slice A4 n4 c4, .int .i64 r] 26)) (w.heap.size + 1) b3 A3 n3 c3 b4 A4 n4 c4 r := by have := Lx.new (w.alloc (.cells #[.bool b, .slice A n c, .bool b2, .slice A2 n2 c2, .int .i64 q] 26)) b3 A3 n3 c3 b4 A4 n4 c4 r; simpa using this
  have hb : Below w.heap.size w ((w.alloc (.cells #[.bool b, .slice A n c, .bool b2, .slice A2 n2 c2, .int .i64 q] 26)).alloc (.cells #[.bool b3, .slice A3 n3 c3, .bool b4, .slice A4 n4 c4, .int .i64 r] 26)) := (Below.alloc (Below.alloc (Below.refl w.heap.size w) (by simp) (.cells #[.bool b, .slice A n c, .bool b2, .slice A2 n2 c2, .int .i64 q] 26)) (by simp) (.cells #[.bool b3, .slice A3 n3 c3, .bool b4, .slice A4 n4 c4, .int .i64 r] 26))
  generalize (w.alloc (.cells #[.bool b, .slice A n c, .bool b2, .slice A2 n2 c2, .int .i64 q] 26)).alloc (.cells #[.bool b3, .slice A3 n3 c3, .bool b4, .slice A4 n4 c4, .int .i64 r] 26) = v1 at *
  replace h := h.keep hb
  replace h2 := h2.keep hb
  replace h3 := h3.keep hb
  replace h4 := h4.keep hb
  obtain ⟨q_a0, f_a0, q_a1, f_a1, q_a2, f_a2, q_a3, f_a3, q_a4, f_a4⟩ := x_a.al
  obtain ⟨q_d0, f_d0, q_d1, f_d1, q_d2, f_d2, q_d3, f_d3, q_d4, f_d4⟩ := x_d.al
  go_wp2_with fail
  with_reducible refine (RRight_any h h2 (by omega) (by omega)).mono ?_
  rintro e v2 ⟨rfl, hb1⟩
  replace x_a := x_a.keep hb1
  replace x_d := x_d.keep hb1
  replace h := h.keep hb1
  replace h2 := h2.keep hb1
  replace h3 := h3.keep hb1
  replace h4 := h4.keep hb1
  replace hb := bthen hb hb1
  clear hb1
  clear q_a0 f_a0 q_a1 f_a1 q_a2 f_a2 q_a3 f_a3 q_a4 f_a4; obtain ⟨q_a0, f_a0, q_a1, f_a1, q_a2, f_a2, q_a3, f_a3, q_a4, f_a4⟩ := x_a.al
  clear q_d0 f_d0 q_d1 f_d1 q_d2 f_d2 q_d3 f_d3 q_d4 f_d4; obtain ⟨q_d0, f_d0, q_d1, f_d1, q_d2, f_d2, q_d3, f_d3, q_d4, f_d4⟩ := x_d.al
  rw [HR.out]
  go_wp2_with fail
  with_reducible refine (RRight_any h3 h4 (by omega) (by omega)).mono ?_
  rintro e v3 ⟨rfl, hb1⟩
  replace x_a := x_a.keep hb1
  replace x_d := x_d.keep hb1
  replace h := h.keep hb1
  replace h2 := h2.keep hb1
  replace h3 := h3.keep hb1
  replace h4 := h4.keep hb1
  replace hb := bthen hb hb1
  clear hb1
  clear q_a0 f_a0 q_a1 f_a1 q_a2 f_a2 q_a3 f_a3 q_a4 f_a4; obtain ⟨q_a0, f_a0, q_a1, f_a1, q_a2, f_a2, q_a3, f_a3, q_a4, f_a4⟩ := x_a.al
  clear q_d0 f_d0 q_d1 f_d1 q_d2 f_d2 q_d3 f_d3 q_d4 f_d4; obtain ⟨q_d0, f_d0, q_d1, f_d1, q_d2, f_d2, q_d3, f_d3, q_d4, f_d4⟩ := x_d.al
  rw [HS.out]
  go_wp2
  go_ret
  first | exact ⟨qB_bool HF.out.symm, hb⟩ | exact ⟨qB_bool ((by simp [HQ.out] : _ = false).trans HF.out.symm), hb⟩

set_option maxRecDepth 100000 in
set_option maxHeartbeats 4000000 in
theorem RAdd_yes {b b2 b3 b4 : Bool} {A A2 A3 A4 : Option Addr} {n c n2 c2 n3 c3 n4 c4 : Nat} {X Y U V q : Int} {j j2 j3 j4 : Nat} {w : World} (h : Zr w b A n c X j) (h2 : Zr w b2 A2 n2 c2 Y j2) (h3 : Zr w b3 A3 n3 c3 U j3) (h4 : Zr w b4 A4 n4 c4 V j4) (hv : 0 ≤ q ∧ q ≤ 2048 ∧ X ≤ Y) (hv2 : U ≤ V) (hj : j ≤ 8) (hj2 : j2 ≤ 8) (hj3 : j3 ≤ 8) (hj4 : j4 ≤ 8) :
  Calls Tryz.prog 18 #[.agg #[.bool b, .slice A n c, .bool b2, .slice A2 n2 c2, .int .i64 q], .agg #[.bool b3, .slice A3 n3 c3, .bool b4, .slice A4 n4 c4, .int .i64 q]] w (OuL w (X + U) (Y + V) q 9) := by
 have HM := Lib.hid (mtB_yes (r := q) ⟨hv, ⟨hv.1, hv.2.1, hv2⟩, rfl⟩)
 clear hv hv2
 go_enter Tryz.func18, Tryz.ntmps18
 go_wp2_with fail
 have x_a : Lx (w.alloc (.cells #[.bool b, .slice A n c, .bool b2, .slice A2 n2 c2, .int .i64 q] 26)) (w.heap.size) b A n c b2 A2 n2 c2 q := by have := Lx.new w b A n c b2 A2 n2 c2 q; simpa using this
 replace x_a := x_a.alloc (.cells #[.bool b3, .slice A3 n3 c3, .bool b4, .slice A4 n4 c4, .int .i64 q] 26)
 have x_d : Lx ((w.alloc (.cells #[.bool b, .slice A n c, .bool b2, .slice A2 n2 c2, .int .i64 q] 26)).alloc (.cells #[.bool b3, .slice A3 n3 c3, .bool b4, .slice A4 n4 c4, .int .i64 q] 26)) (w.heap.size + 1) b3 A3 n3 c3 b4 A4 n4 c4 q := by have := Lx.new (w.alloc (.cells #[.bool b, .slice A n c, .bool b2, .slice A2 n2 c2, .int .i64 q] 26)) b3 A3 n3 c3 b4 A4 n4 c4 q; simpa using this
 replace x_a := x_a.alloc (.cells #[.bool false, .slice none 0 0, .bool false, .slice none 0 0, .int .i64 0] 26)
 replace x_d := x_d.alloc (.cells #[.bool false, .slice none 0 0, .bool false, .slice none 0 0, .int .i64 0] 26)
 have x_r : Lx (((w.alloc (.cells #[.bool b, .slice A n c, .bool b2, .slice A2 n2 c2, .int .i64 q] 26)).alloc (.cells #[.bool b3, .slice A3 n3 c3, .bool b4, .slice A4 n4 c4, .int .i64 q] 26)).alloc (.cells #[.bool false, .slice none 0 0, .bool false, .slice none 0 0, .int .i64 0] 26)) (w.heap.size + 1 + 1) false none 0 0 false none 0 0 0 := by have := Lx.new ((w.alloc (.cells #[.bool b, .slice A n c, .bool b2, .slice A2 n2 c2, .int .i64 q] 26)).alloc (.cells #[.bool b3, .slice A3 n3 c3, .bool b4, .slice A4 n4 c4, .int .i64 q] 26)) false none 0 0 false none 0 0 0; simpa using this
 have hb : Below w.heap.size w (((w.alloc (.cells #[.bool b, .slice A n c, .bool b2, .slice A2 n2 c2, .int .i64 q] 26)).alloc (.cells #[.bool b3, .slice A3 n3 c3, .bool b4, .slice A4 n4 c4, .int .i64 q] 26)).alloc (.cells #[.bool false, .slice none 0 0, .bool false, .slice none 0 0, .int .i64 0] 26)) := (Below.alloc (Below.alloc (Below.alloc (Below.refl w.heap.size w) (by simp) (.cells #[.bool b, .slice A n c, .bool b2, .slice A2 n2 c2, .int .i64 q] 26)) (by simp) (.cells #[.bool b3, .slice A3 n3 c3, .bool b4, .slice A4 n4 c4, .int .i64 q] 26)) (by simp; omega) (.cells #[.bool false, .slice none 0 0, .bool false, .slice none 0 0, .int .i64 0] 26))
 generalize ((w.alloc (.cells #[.bool b, .slice A n c, .bool b2, .slice A2 n2 c2, .int .i64 q] 26)).alloc (.cells #[.bool b3, .slice A3 n3 c3, .bool b4, .slice A4 n4 c4, .int .i64 q] 26)).alloc (.cells #[.bool false, .slice none 0 0, .bool false, .slice none 0 0, .int .i64 0] 26) = v1 at *
 replace h := h.keep hb
 replace h2 := h2.keep hb
 replace h3 := h3.keep hb
 replace h4 := h4.keep hb
 obtain ⟨q_a0, f_a0, q_a1, f_a1, q_a2, f_a2, q_a3, f_a3, q_a4, f_a4⟩ := x_a.al
 obtain ⟨q_d0, f_d0, q_d1, f_d1, q_d2, f_d2, q_d3, f_d3, q_d4, f_d4⟩ := x_d.al
 obtain ⟨q_r0, f_r0, q_r1, f_r1, q_r2, f_r2, q_r3, f_r3, q_r4, f_r4⟩ := x_r.al
 go_wp2_with fail
 with_reducible refine (Rboth_any h h2 h3 h4 (by omega) (by omega) (by omega) (by omega)).mono ?_
 rintro e v2 ⟨rfl, hb1⟩
 replace x_a := x_a.keep hb1
 replace x_d := x_d.keep hb1
 replace x_r := x_r.keep hb1
 replace h := h.keep hb1
 replace h2 := h2.keep hb1
 replace h3 := h3.keep hb1
 replace h4 := h4.keep hb1
 replace hb := bthen hb hb1
 clear hb1
 clear q_a0 f_a0 q_a1 f_a1 q_a2 f_a2 q_a3 f_a3 q_a4 f_a4; obtain ⟨q_a0, f_a0, q_a1, f_a1, q_a2, f_a2, q_a3, f_a3, q_a4, f_a4⟩ := x_a.al
 clear q_d0 f_d0 q_d1 f_d1 q_d2 f_d2 q_d3 f_d3 q_d4 f_d4; obtain ⟨q_d0, f_d0, q_d1, f_d1, q_d2, f_d2, q_d3, f_d3, q_d4, f_d4⟩ := x_d.al
 clear q_r0 f_r0 q_r1 f_r1 q_r2 f_r2 q_r3 f_r3 q_r4 f_r4; obtain ⟨q_r0, f_r0, q_r1, f_r1, q_r2, f_r2, q_r3, f_r3, q_r4, f_r4⟩ := x_r.al
 rw [HM.out]
 go_wp2_with fail
 go_region_held3 (fun w' => w'.cell? ⟨w.heap.size, 0, none⟩ = some (.bool b) ∧ w'.cell? ⟨w.heap.size, 1, none⟩ = some (.slice A n c) ∧ w'.cell? ⟨w.heap.size, 2, none⟩ = some (.bool b2) ∧ w'.cell? ⟨w.heap.size, 3, none⟩ = some (.slice A2 n2 c2) ∧ w'.cell? ⟨w.heap.size, 4, none⟩ = some (.int .i64 q) ∧ w'.cell? ⟨w.heap.size + 1, 0, none⟩ = some (.bool b3) ∧ w'.cell? ⟨w.heap.size + 1, 1, none⟩ = some (.slice A3 n3 c3) ∧ w'.cell? ⟨w.heap.size + 1, 2, none⟩ = some (.bool b4) ∧ w'.cell? ⟨w.heap.size + 1, 3, none⟩ = some (.slice A4 n4 c4) ∧ w'.cell? ⟨w.heap.size + 1, 4, none⟩ = some (.int .i64 q))
  (first | (with_reducible exact ⟨x_a.c0, x_a.c1, x_a.c2, x_a.c3, x_a.c4, x_d.c0, x_d.c1, x_d.c2, x_d.c3, x_d.c4⟩) | (with_reducible exact ⟨(x_a.aside (by omega)).c0, (x_a.aside (by omega)).c1, (x_a.aside (by omega)).c2, (x_a.aside (by omega)).c3, (x_a.aside (by omega)).c4, (x_d.aside (by omega)).c0, (x_d.aside (by omega)).c1, (x_d.aside (by omega)).c2, (x_d.aside (by omega)).c3, (x_d.aside (by omega)).c4⟩) | (with_reducible exact ⟨((x_a.aside (by omega)).aside (by omega)).c0, ((x_a.aside (by omega)).aside (by omega)).c1, ((x_a.aside (by omega)).aside (by omega)).c2, ((x_a.aside (by omega)).aside (by omega)).c3, ((x_a.aside (by omega)).aside (by omega)).c4, ((x_d.aside (by omega)).aside (by omega)).c0, ((x_d.aside (by omega)).aside (by omega)).c1, ((x_d.aside (by omega)).aside (by omega)).c2, ((x_d.aside (by omega)).aside (by omega)).c3, ((x_d.aside (by omega)).aside (by omega)).c4⟩) | (with_reducible exact ⟨(x_a.asideD (by omega)).c0, (x_a.asideD (by omega)).c1, (x_a.asideD (by omega)).c2, (x_a.asideD (by omega)).c3, (x_a.asideD (by omega)).c4, (x_d.asideD (by omega)).c0, (x_d.asideD (by omega)).c1, (x_d.asideD (by omega)).c2, (x_d.asideD (by omega)).c3, (x_d.asideD (by omega)).c4⟩) | (with_reducible exact ⟨((x_a.asideD (by omega)).asideD (by omega)).c0, ((x_a.asideD (by omega)).asideD (by omega)).c1, ((x_a.asideD (by omega)).asideD (by omega)).c2, ((x_a.asideD (by omega)).asideD (by omega)).c3, ((x_a.asideD (by omega)).asideD (by omega)).c4, ((x_d.asideD (by omega)).asideD (by omega)).c0, ((x_d.asideD (by omega)).asideD (by omega)).c1, ((x_d.asideD (by omega)).asideD (by omega)).c2, ((x_d.asideD (by omega)).asideD (by omega)).c3, ((x_d.asideD (by omega)).asideD (by omega)).c4⟩) | (with_reducible exact ⟨(x_a.asideL (by omega)).c0, (x_a.asideL (by omega)).c1, (x_a.asideL (by omega)).c2, (x_a.asideL (by omega)).c3, (x_a.asideL (by omega)).c4, (x_d.asideL (by omega)).c0, (x_d.asideL (by omega)).c1, (x_d.asideL (by omega)).c2, (x_d.asideL (by omega)).c3, (x_d.asideL (by omega)).c4⟩) | (with_reducible exact ⟨((x_a.asideL (by omega)).asideL (by omega)).c0, ((x_a.asideL (by omega)).asideL (by omega)).c1, ((x_a.asideL (by omega)).asideL (by omega)).c2, ((x_a.asideL (by omega)).asideL (by omega)).c3, ((x_a.asideL (by omega)).asideL (by omega)).c4, ((x_d.asideL (by omega)).asideL (by omega)).c0, ((x_d.asideL (by omega)).asideL (by omega)).c1, ((x_d.asideL (by omega)).asideL (by omega)).c2, ((x_d.asideL (by omega)).asideL (by omega)).c3, ((x_d.asideL (by omega)).asideL (by omega)).c4⟩) | go_keep)
  (first | (go_at_call 55; (with_reducible refine (RAddZ_any h.drw h3.drw 9 (by omega) (by omega) (by omega)).mono ?_); rintro e v3 ⟨A5, n5, c5, rfl, z5, hb1⟩; replace hb1 := undrew hb1; replace x_a := x_a.keep hb1; replace x_d := x_d.keep hb1; replace x_r := x_r.keep hb1; replace h := h.keep hb1; replace h2 := h2.keep hb1; replace h3 := h3.keep hb1; replace h4 := h4.keep hb1; replace hb := bthen hb hb1; clear hb1; clear q_a0 f_a0 q_a1 f_a1 q_a2 f_a2 q_a3 f_a3 q_a4 f_a4; obtain ⟨q_a0, f_a0, q_a1, f_a1, q_a2, f_a2, q_a3, f_a3, q_a4, f_a4⟩ := x_a.al; clear q_d0 f_d0 q_d1 f_d1 q_d2 f_d2 q_d3 f_d3 q_d4 f_d4; obtain ⟨q_d0, f_d0, q_d1, f_d1, q_d2, f_d2, q_d3, f_d3, q_d4, f_d4⟩ := x_d.al; clear q_r0 f_r0 q_r1 f_r1 q_r2 f_r2 q_r3 f_r3 q_r4 f_r4; obtain ⟨q_r0, f_r0, q_r1, f_r1, q_r2, f_r2, q_r3, f_r3, q_r4, f_r4⟩ := x_r.al) | (go_at_call 55; (with_reducible refine (RAddZ_any h2 h4 9 (by omega) (by omega) (by omega)).mono ?_); rintro e v4 ⟨A6, n6, c6, rfl, z6, hb1⟩; replace x_a := x_a.keep hb1; replace x_d := x_d.keep hb1; replace x_r := x_r.keep hb1; replace h := h.keep hb1; replace h2 := h2.keep hb1; replace h3 := h3.keep hb1; replace h4 := h4.keep hb1; replace z5 := z5.keep hb1; replace hb := bthen hb hb1; clear hb1; clear q_a0 f_a0 q_a1 f_a1 q_a2 f_a2 q_a3 f_a3 q_a4 f_a4; obtain ⟨q_a0, f_a0, q_a1, f_a1, q_a2, f_a2, q_a3, f_a3, q_a4, f_a4⟩ := x_a.al; clear q_d0 f_d0 q_d1 f_d1 q_d2 f_d2 q_d3 f_d3 q_d4 f_d4; obtain ⟨q_d0, f_d0, q_d1, f_d1, q_d2, f_d2, q_d3, f_d3, q_d4, f_d4⟩ := x_d.al; clear q_r0 f_r0 q_r1 f_r1 q_r2 f_r2 q_r3 f_r3 q_r4 f_r4; obtain ⟨q_r0, f_r0, q_r1, f_r1, q_r2, f_r2, q_r3, f_r3, q_r4, f_r4⟩ := x_r.al))
 go_wp2
 replace x_a := x_a.asideL (b' := (ngB (X + U))) (A' := A5) (n' := n5) (c' := c5) (p' := (ngB (Y + V))) (B' := A6) (m' := n6) (d' := c6) (e' := q) (g := w.heap.size + 1 + 1) (by omega)
 replace x_d := x_d.asideL (b' := (ngB (X + U))) (A' := A5) (n' := n5) (c' := c5) (p' := (ngB (Y + V))) (B' := A6) (m' := n6) (d' := c6) (e' := q) (g := w.heap.size + 1 + 1) (by omega)
 replace h := h.putL (b' := (ngB (X + U))) (A' := A5) (n' := n5) (c' := c5) (p' := (ngB (Y + V))) (B' := A6) (m' := n6) (d' := c6) (e' := q) x_r
 replace h2 := h2.putL (b' := (ngB (X + U))) (A' := A5) (n' := n5) (c' := c5) (p' := (ngB (Y + V))) (B' := A6) (m' := n6) (d' := c6) (e' := q) x_r
 replace h3 := h3.putL (b' := (ngB (X + U))) (A' := A5) (n' := n5) (c' := c5) (p' := (ngB (Y + V))) (B' := A6) (m' := n6) (d' := c6) (e' := q) x_r
 replace h4 := h4.putL (b' := (ngB (X + U))) (A' := A5) (n' := n5) (c' := c5) (p' := (ngB (Y + V))) (B' := A6) (m' := n6) (d' := c6) (e' := q) x_r
 replace z5 := z5.putL (b' := (ngB (X + U))) (A' := A5) (n' := n5) (c' := c5) (p' := (ngB (Y + V))) (B' := A6) (m' := n6) (d' := c6) (e' := q) x_r
 replace z6 := z6.putL (b' := (ngB (X + U))) (A' := A5) (n' := n5) (c' := c5) (p' := (ngB (Y + V))) (B' := A6) (m' := n6) (d' := c6) (e' := q) x_r
 replace hb := put_belowL (g := w.heap.size + 1 + 1) hb (by omega) (.bool (ngB (X + U))) (.slice A5 n5 c5) (.bool (ngB (Y + V))) (.slice A6 n6 c6) (.int .i64 q)
 replace x_r := x_r.put (ngB (X + U)) A5 n5 c5 (ngB (Y + V)) A6 n6 c6 q
 clear q_a0 f_a0 q_a1 f_a1 q_a2 f_a2 q_a3 f_a3 q_a4 f_a4 q_d0 f_d0 q_d1 f_d1 q_d2 f_d2 q_d3 f_d3 q_d4 f_d4 q_r0 f_r0 q_r1 f_r1 q_r2 f_r2 q_r3 f_r3 q_r4 f_r4
 generalize ((((v4.setCell ⟨w.heap.size + 1 + 1, 0, none⟩ (.bool (ngB (X + U)))).setCell ⟨w.heap.size + 1 + 1, 1, none⟩ (.slice A5 n5 c5)).setCell ⟨w.heap.size + 1 + 1, 2, none⟩ (.bool (ngB (Y + V)))).setCell ⟨w.heap.size + 1 + 1, 3, none⟩ (.slice A6 n6 c6)).setCell ⟨w.heap.size + 1 + 1, 4, none⟩ (.int .i64 q) = v5 at *
 obtain ⟨q_a0, f_a0, q_a1, f_a1, q_a2, f_a2, q_a3, f_a3, q_a4, f_a4⟩ := x_a.al
 obtain ⟨q_d0, f_d0, q_d1, f_d1, q_d2, f_d2, q_d3, f_d3, q_d4, f_d4⟩ := x_d.al
 obtain ⟨q_r0, f_r0, q_r1, f_r1, q_r2, f_r2, q_r3, f_r3, q_r4, f_r4⟩ := x_r.al
 refine bodyPost_ret (v := .tuple #[.agg #[.bool (ngB (X + U)), .slice A5 n5 c5, .bool (ngB (Y + V)), .slice A6 n6 c6, .int .i64 q], .int .i64 0]) (by simp [results, Tryz.results18, go_sem, q_r0, q_r1, q_r2, q_r3, q_r4]) rfl ?_
 exact ⟨_, _, _, _, _, _, rfl, z5, z6, hb⟩

set_option maxRecDepth 100000 in
set_option maxHeartbeats 2000000 in
theorem RAdd_no {b b2 b3 b4 : Bool} {A A2 A3 A4 : Option Addr} {n c n2 c2 n3 c3 n4 c4 : Nat} {X Y U V q r : Int} {j j2 j3 j4 : Nat} {w : World} (h : Zr w b A n c X j) (h2 : Zr w b2 A2 n2 c2 Y j2) (h3 : Zr w b3 A3 n3 c3 U j3) (h4 : Zr w b4 A4 n4 c4 V j4) (hv : ¬ ((0 ≤ q ∧ q ≤ 2048 ∧ X ≤ Y) ∧ (0 ≤ r ∧ r ≤ 2048 ∧ U ≤ V) ∧ q = r)) (hj : j ≤ 8) (hj2 : j2 ≤ 8) (hj3 : j3 ≤ 8) (hj4 : j4 ≤ 8) :
  Calls Tryz.prog 18 #[.agg #[.bool b, .slice A n c, .bool b2, .slice A2 n2 c2, .int .i64 q], .agg #[.bool b3, .slice A3 n3 c3, .bool b4, .slice A4 n4 c4, .int .i64 r]] w (ErrL w 1) := by
 have HM := Lib.hid (mtB_no hv)
 clear hv
 go_enter Tryz.func18, Tryz.ntmps18
 go_wp2_with fail
 have x_a : Lx (w.alloc (.cells #[.bool b, .slice A n c, .bool b2, .slice A2 n2 c2, .int .i64 q] 26)) (w.heap.size) b A n c b2 A2 n2 c2 q := by have := Lx.new w b A n c b2 A2 n2 c2 q; simpa using this
 replace x_a := x_a.alloc (.cells #[.bool b3, .slice A3 n3 c3, .bool b4, .slice A4 n4 c4, .int .i64 r] 26)
 have x_d : Lx ((w.alloc (.cells #[.bool b, .slice A n c, .bool b2, .slice A2 n2 c2, .int .i64 q] 26)).alloc (.cells #[.bool b3, .slice A3 n3 c3, .bool b4, .slice A4 n4 c4, .int .i64 r] 26)) (w.heap.size + 1) b3 A3 n3 c3 b4 A4 n4 c4 r := by have := Lx.new (w.alloc (.cells #[.bool b, .slice A n c, .bool b2, .slice A2 n2 c2, .int .i64 q] 26)) b3 A3 n3 c3 b4 A4 n4 c4 r; simpa using this
 replace x_a := x_a.alloc (.cells #[.bool false, .slice none 0 0, .bool false, .slice none 0 0, .int .i64 0] 26)
 replace x_d := x_d.alloc (.cells #[.bool false, .slice none 0 0, .bool false, .slice none 0 0, .int .i64 0] 26)
 have x_r : Lx (((w.alloc (.cells #[.bool b, .slice A n c, .bool b2, .slice A2 n2 c2, .int .i64 q] 26)).alloc (.cells #[.bool b3, .slice A3 n3 c3, .bool b4, .slice A4 n4 c4, .int .i64 r] 26)).alloc (.cells #[.bool false, .slice none 0 0, .bool false, .slice none 0 0, .int .i64 0] 26)) (w.heap.size + 1 + 1) false none 0 0 false none 0 0 0 := by have := Lx.new ((w.alloc (.cells #[.bool b, .slice A n c, .bool b2, .slice A2 n2 c2, .int .i64 q] 26)).alloc (.cells #[.bool b3, .slice A3 n3 c3, .bool b4, .slice A4 n4 c4, .int .i64 r] 26)) false none 0 0 false none 0 0 0; simpa using this
 have hb : Below w.heap.size w (((w.alloc (.cells #[.bool b, .slice A n c, .bool b2, .slice A2 n2 c2, .int .i64 q] 26)).alloc (.cells #[.bool b3, .slice A3 n3 c3, .bool b4, .slice A4 n4 c4, .int .i64 r] 26)).alloc (.cells #[.bool false, .slice none 0 0, .bool false, .slice none 0 0, .int .i64 0] 26)) := (Below.alloc (Below.alloc (Below.alloc (Below.refl w.heap.size w) (by simp) (.cells #[.bool b, .slice A n c, .bool b2, .slice A2 n2 c2, .int .i64 q] 26)) (by simp) (.cells #[.bool b3, .slice A3 n3 c3, .bool b4, .slice A4 n4 c4, .int .i64 r] 26)) (by simp; omega) (.cells #[.bool false, .slice none 0 0, .bool false, .slice none 0 0, .int .i64 0] 26))
 generalize ((w.alloc (.cells #[.bool b, .slice A n c, .bool b2, .slice A2 n2 c2, .int .i64 q] 26)).alloc (.cells #[.bool b3, .slice A3 n3 c3, .bool b4, .slice A4 n4 c4, .int .i64 r] 26)).alloc (.cells #[.bool false, .slice none 0 0, .bool false, .slice none 0 0, .int .i64 0] 26) = v1 at *
 replace h := h.keep hb
 replace h2 := h2.keep hb
 replace h3 := h3.keep hb
 replace h4 := h4.keep hb
 obtain ⟨q_a0, f_a0, q_a1, f_a1, q_a2, f_a2, q_a3, f_a3, q_a4, f_a4⟩ := x_a.al
 obtain ⟨q_d0, f_d0, q_d1, f_d1, q_d2, f_d2, q_d3, f_d3, q_d4, f_d4⟩ := x_d.al
 obtain ⟨q_r0, f_r0, q_r1, f_r1, q_r2, f_r2, q_r3, f_r3, q_r4, f_r4⟩ := x_r.al
 go_wp2_with fail
 with_reducible refine (Rboth_any h h2 h3 h4 (by omega) (by omega) (by omega) (by omega)).mono ?_
 rintro e v2 ⟨rfl, hb1⟩
 replace x_a := x_a.keep hb1
 replace x_d := x_d.keep hb1
 replace x_r := x_r.keep hb1
 replace h := h.keep hb1
 replace h2 := h2.keep hb1
 replace h3 := h3.keep hb1
 replace h4 := h4.keep hb1
 replace hb := bthen hb hb1
 clear hb1
 clear q_a0 f_a0 q_a1 f_a1 q_a2 f_a2 q_a3 f_a3 q_a4 f_a4; obtain ⟨q_a0, f_a0, q_a1, f_a1, q_a2, f_a2, q_a3, f_a3, q_a4, f_a4⟩ := x_a.al
 clear q_d0 f_d0 q_d1 f_d1 q_d2 f_d2 q_d3 f_d3 q_d4 f_d4; obtain ⟨q_d0, f_d0, q_d1, f_d1, q_d2, f_d2, q_d3, f_d3, q_d4, f_d4⟩ := x_d.al
 clear q_r0 f_r0 q_r1 f_r1 q_r2 f_r2 q_r3 f_r3 q_r4 f_r4; obtain ⟨q_r0, f_r0, q_r1, f_r1, q_r2, f_r2, q_r3, f_r3, q_r4, f_r4⟩ := x_r.al
 rw [HM.out]
 go_wp2_with fail
 go_wp2
 replace x_a := x_a.asideL (b' := false) (A' := none) (n' := 0) (c' := 0) (p' := false) (B' := none) (m' := 0) (d' := 0) (e' := 0) (g := w.heap.size + 1 + 1) (by omega)
 replace x_d := x_d.asideL (b' := false) (A' := none) (n' := 0) (c' := 0) (p' := false) (B' := none) (m' := 0) (d' := 0) (e' := 0) (g := w.heap.size + 1 + 1) (by omega)
 replace h := h.putL (b' := false) (A' := none) (n' := 0) (c' := 0) (p' := false) (B' := none) (m' := 0) (d' := 0) (e' := 0) x_r
 replace h2 := h2.putL (b' := false) (A' := none) (n' := 0) (c' := 0) (p' := false) (B' := none) (m' := 0) (d' := 0) (e' := 0) x_r
 replace h3 := h3.putL (b' := false) (A' := none) (n' := 0) (c' := 0) (p' := false) (B' := none) (m' := 0) (d' := 0) (e' := 0) x_r
 replace h4 := h4.putL (b' := false) (A' := none) (n' := 0) (c' := 0) (p' := false) (B' := none) (m' := 0) (d' := 0) (e' := 0) x_r
 replace hb := put_belowL (g := w.heap.size + 1 + 1) hb (by omega) (.bool false) (.slice none 0 0) (.bool false) (.slice none 0 0) (.int .i64 0)
 replace x_r := x_r.put false none 0 0 false none 0 0 0
 clear q_a0 f_a0 q_a1 f_a1 q_a2 f_a2 q_a3 f_a3 q_a4 f_a4 q_d0 f_d0 q_d1 f_d1 q_d2 f_d2 q_d3 f_d3 q_d4 f_d4 q_r0 f_r0 q_r1 f_r1 q_r2 f_r2 q_r3 f_r3 q_r4 f_r4
 generalize ((((v2.setCell ⟨w.heap.size + 1 + 1, 0, none⟩ (.bool false)).setCell ⟨w.heap.size + 1 + 1, 1, none⟩ (.slice none 0 0)).setCell ⟨w.heap.size + 1 + 1, 2, none⟩ (.bool false)).setCell ⟨w.heap.size + 1 + 1, 3, none⟩ (.slice none 0 0)).setCell ⟨w.heap.size + 1 + 1, 4, none⟩ (.int .i64 0) = v3 at *
 obtain ⟨q_a0, f_a0, q_a1, f_a1, q_a2, f_a2, q_a3, f_a3, q_a4, f_a4⟩ := x_a.al
 obtain ⟨q_d0, f_d0, q_d1, f_d1, q_d2, f_d2, q_d3, f_d3, q_d4, f_d4⟩ := x_d.al
 obtain ⟨q_r0, f_r0, q_r1, f_r1, q_r2, f_r2, q_r3, f_r3, q_r4, f_r4⟩ := x_r.al
 refine bodyPost_ret (v := .tuple #[.agg #[.bool false, .slice none 0 0, .bool false, .slice none 0 0, .int .i64 0], .int .i64 1]) (by simp [results, Tryz.results18, go_sem, q_r0, q_r1, q_r2, q_r3, q_r4]) rfl ?_
 exact ⟨rfl, hb⟩

set_option maxRecDepth 100000 in
set_option maxHeartbeats 4000000 in
theorem RSub_yes {b b2 b3 b4 : Bool} {A A2 A3 A4 : Option Addr} {n c n2 c2 n3 c3 n4 c4 : Nat} {X Y U V q : Int} {j j2 j3 j4 : Nat} {w : World} (h : Zr w b A n c X j) (h2 : Zr w b2 A2 n2 c2 Y j2) (h3 : Zr w b3 A3 n3 c3 U j3) (h4 : Zr w b4 A4 n4 c4 V j4) (hv : 0 ≤ q ∧ q ≤ 2048 ∧ X ≤ Y) (hv2 : U ≤ V) (hj : j ≤ 8) (hj2 : j2 ≤ 8) (hj3 : j3 ≤ 8) (hj4 : j4 ≤ 8) :
  Calls Tryz.prog 20 #[.agg #[.bool b, .slice A n c, .bool b2, .slice A2 n2 c2, .int .i64 q], .agg #[.bool b3, .slice A3 n3 c3, .bool b4, .slice A4 n4 c4, .int .i64 q]] w (OuL w (X - V) (Y - U) q 9) := by
 have HM := Lib.hid (mtB_yes (r := q) ⟨hv, ⟨hv.1, hv.2.1, hv2⟩, rfl⟩)
 clear hv hv2
 go_enter Tryz.func20, Tryz.ntmps20
 go_wp2_with fail
 have x_a : Lx (w.alloc (.cells #[.bool b, .slice A n c, .bool b2, .slice A2 n2 c2, .int .i64 q] 26)) (w.heap.size) b A n c b2 A2 n2 c2 q := by have := Lx.new w b A n c b2 A2 n2 c2 q; simpa using this
 replace x_a := x_a.alloc (.cells #[.bool b3, .slice A3 n3 c3, .bool b4, .slice A4 n4 c4, .int .i64 q] 26)
 have x_d : Lx ((w.alloc (.cells #[.bool b, .slice A n c, .bool b2, .slice A2 n2 c2, .int .i64 q] 26)).alloc (.cells #[.bool b3, .slice A3 n3 c3, .bool b4, .slice A4 n4 c4, .int .i64 q] 26)) (w.heap.size + 1) b3 A3 n3 c3 b4 A4 n4 c4 q := by have := Lx.new (w.alloc (.cells #[.bool b, .slice A n c, .bool b2, .slice A2 n2 c2, .int .i64 q] 26)) b3 A3 n3 c3 b4 A4 n4 c4 q; simpa using this
 replace x_a := x_a.alloc (.cells #[.bool false, .slice none 0 0, .bool false, .slice none 0 0, .int .i64 0] 26)
 replace x_d := x_d.alloc (.cells #[.bool false, .slice none 0 0, .bool false, .slice none 0 0, .int .i64 0] 26)
 have x_r : Lx (((w.alloc (.cells #[.bool b, .slice A n c, .bool b2, .slice A2 n2 c2, .int .i64 q] 26)).alloc (.cells #[.bool b3, .slice A3 n3 c3, .bool b4, .slice A4 n4 c4, .int .i64 q] 26)).alloc (.cells #[.bool false, .slice none 0 0, .bool false, .slice none 0 0, .int .i64 0] 26)) (w.heap.size + 1 + 1) false none 0 0 false none 0 0 0 := by have := Lx.new ((w.alloc (.cells #[.bool b, .slice A n c, .bool b2, .slice A2 n2 c2, .int .i64 q] 26)).alloc (.cells #[.bool b3, .slice A3 n3 c3, .bool b4, .slice A4 n4 c4, .int .i64 q] 26)) false none 0 0 false none 0 0 0; simpa using this
 have hb : Below w.heap.size w (((w.alloc (.cells #[.bool b, .slice A n c, .bool b2, .slice A2 n2 c2, .int .i64 q] 26)).alloc (.cells #[.bool b3, .slice A3 n3 c3, .bool b4, .slice A4 n4 c4, .int .i64 q] 26)).alloc (.cells #[.bool false, .slice none 0 0, .bool false, .slice none 0 0, .int .i64 0] 26)) := (Below.alloc (Below.alloc (Below.alloc (Below.refl w.heap.size w) (by simp) (.cells #[.bool b, .slice A n c, .bool b2, .slice A2 n2 c2, .int .i64 q] 26)) (by simp) (.cells #[.bool b3, .slice A3 n3 c3, .bool b4, .slice A4 n4 c4, .int .i64 q] 26)) (by simp; omega) (.cells #[.bool false, .slice none 0 0, .bool false, .slice none 0 0, .int .i64 0] 26))
 generalize ((w.alloc (.cells #[.bool b, .slice A n c, .bool b2, .slice A2 n2 c2, .int .i64 q] 26)).alloc (.cells #[.bool b3, .slice A3 n3 c3, .bool b4, .slice A4 n4 c4, .int .i64 q] 26)).alloc (.cells #[.bool false, .slice none 0 0, .bool false, .slice none 0 0, .int .i64 0] 26) = v1 at *
 replace h := h.keep hb
 replace h2 := h2.keep hb
 replace h3 := h3.keep hb
 replace h4 := h4.keep hb
 obtain ⟨q_a0, f_a0, q_a1, f_a1, q_a2, f_a2, q_a3, f_a3, q_a4, f_a4⟩ := x_a.al
 obtain ⟨q_d0, f_d0, q_d1, f_d1, q_d2, f_d2, q_d3, f_d3, q_d4, f_d4⟩ := x_d.al
 obtain ⟨q_r0, f_r0, q_r1, f_r1, q_r2, f_r2, q_r3, f_r3, q_r4, f_r4⟩ := x_r.al
 go_wp2_with fail
 with_reducible refine (Rboth_any h h2 h3 h4 (by omega) (by omega) (by omega) (by omega)).mono ?_
 rintro e v2 ⟨rfl, hb1⟩
 replace x_a := x_a.keep hb1
 replace x_d := x_d.keep hb1
 replace x_r := x_r.keep hb1
 replace h := h.keep hb1
 replace h2 := h2.keep hb1
 replace h3 := h3.keep hb1
 replace h4 := h4.keep hb1
 replace hb := bthen hb hb1
 clear hb1
 clear q_a0 f_a0 q_a1 f_a1 q_a2 f_a2 q_a3 f_a3 q_a4 f_a4; obtain ⟨q_a0, f_a0, q_a1, f_a1, q_a2, f_a2, q_a3, f_a3, q_a4, f_a4⟩ := x_a.al
 clear q_d0 f_d0 q_d1 f_d1 q_d2 f_d2 q_d3 f_d3 q_d4 f_d4; obtain ⟨q_d0, f_d0, q_d1, f_d1, q_d2, f_d2, q_d3, f_d3, q_d4, f_d4⟩ := x_d.al
 clear q_r0 f_r0 q_r1 f_r1 q_r2 f_r2 q_r3 f_r3 q_r4 f_r4; obtain ⟨q_r0, f_r0, q_r1, f_r1, q_r2, f_r2, q_r3, f_r3, q_r4, f_r4⟩ := x_r.al
 rw [HM.out]
 go_wp2_with fail
 go_region_held3 (fun w' => w'.cell? ⟨w.heap.size, 0, none⟩ = some (.bool b) ∧ w'.cell? ⟨w.heap.size, 1, none⟩ = some (.slice A n c) ∧ w'.cell? ⟨w.heap.size, 2, none⟩ = some (.bool b2) ∧ w'.cell? ⟨w.heap.size, 3, none⟩ = some (.slice A2 n2 c2) ∧ w'.cell? ⟨w.heap.size, 4, none⟩ = some (.int .i64 q) ∧ w'.cell? ⟨w.heap.size + 1, 0, none⟩ = some (.bool b3) ∧ w'.cell? ⟨w.heap.size + 1, 1, none⟩ = some (.slice A3 n3 c3) ∧ w'.cell? ⟨w.heap.size + 1, 2, none⟩ = some (.bool b4) ∧ w'.cell? ⟨w.heap.size + 1, 3, none⟩ = some (.slice A4 n4 c4) ∧ w'.cell? ⟨w.heap.size + 1, 4, none⟩ = some (.int .i64 q))
  (first | (with_reducible exact ⟨x_a.c0, x_a.c1, x_a.c2, x_a.c3, x_a.c4, x_d.c0, x_d.c1, x_d.c2, x_d.c3, x_d.c4⟩) | (with_reducible exact ⟨(x_a.aside (by omega)).c0, (x_a.aside (by omega)).c1, (x_a.aside (by omega)).c2, (x_a.aside (by omega)).c3, (x_a.aside (by omega)).c4, (x_d.aside (by omega)).c0, (x_d.aside (by omega)).c1, (x_d.aside (by omega)).c2, (x_d.aside (by omega)).c3, (x_d.aside (by omega)).c4⟩) | (with_reducible exact ⟨((x_a.aside (by omega)).aside (by omega)).c0, ((x_a.aside (by omega)).aside (by omega)).c1, ((x_a.aside (by omega)).aside (by omega)).c2, ((x_a.aside (by omega)).aside (by omega)).c3, ((x_a.aside (by omega)).aside (by omega)).c4, ((x_d.aside (by omega)).aside (by omega)).c0, ((x_d.aside (by omega)).aside (by omega)).c1, ((x_d.aside (by omega)).aside (by omega)).c2, ((x_d.aside (by omega)).aside (by omega)).c3, ((x_d.aside (by omega)).aside (by omega)).c4⟩) | (with_reducible exact ⟨(x_a.asideD (by omega)).c0, (x_a.asideD (by omega)).c1, (x_a.asideD (by omega)).c2, (x_a.asideD (by omega)).c3, (x_a.asideD (by omega)).c4, (x_d.asideD (by omega)).c0, (x_d.asideD (by omega)).c1, (x_d.asideD (by omega)).c2, (x_d.asideD (by omega)).c3, (x_d.asideD (by omega)).c4⟩) | (with_reducible exact ⟨((x_a.asideD (by omega)).asideD (by omega)).c0, ((x_a.asideD (by omega)).asideD (by omega)).c1, ((x_a.asideD (by omega)).asideD (by omega)).c2, ((x_a.asideD (by omega)).asideD (by omega)).c3, ((x_a.asideD (by omega)).asideD (by omega)).c4, ((x_d.asideD (by omega)).asideD (by omega)).c0, ((x_d.asideD (by omega)).asideD (by omega)).c1, ((x_d.asideD (by omega)).asideD (by omega)).c2, ((x_d.asideD (by omega)).asideD (by omega)).c3, ((x_d.asideD (by omega)).asideD (by omega)).c4⟩) | (with_reducible exact ⟨(x_a.asideL (by omega)).c0, (x_a.asideL (by omega)).c1, (x_a.asideL (by omega)).c2, (x_a.asideL (by omega)).c3, (x_a.asideL (by omega)).c4, (x_d.asideL (by omega)).c0, (x_d.asideL (by omega)).c1, (x_d.asideL (by omega)).c2, (x_d.asideL (by omega)).c3, (x_d.asideL (by omega)).c4⟩) | (with_reducible exact ⟨((x_a.asideL (by omega)).asideL (by omega)).c0, ((x_a.asideL (by omega)).asideL (by omega)).c1, ((x_a.asideL (by omega)).asideL (by omega)).c2, ((x_a.asideL (by omega)).asideL (by omega)).c3, ((x_a.asideL (by omega)).asideL (by omega)).c4, ((x_d.asideL (by omega)).asideL (by omega)).c0, ((x_d.asideL (by omega)).asideL (by omega)).c1, ((x_d.asideL (by omega)).asideL (by omega)).c2, ((x_d.asideL (by omega)).asideL (by omega)).c3, ((x_d.asideL (by omega)).asideL (by omega)).c4⟩) | go_keep)
  (first | (go_at_call 58; (with_reducible refine (RSubZ_any h.drw h4.drw 9 (by omega) (by omega) (by omega)).mono ?_); rintro e v3 ⟨A5, n5, c5, rfl, z5, hb1⟩; replace hb1 := undrew hb1; replace x_a := x_a.keep hb1; replace x_d := x_d.keep hb1; replace x_r := x_r.keep hb1; replace h := h.keep hb1; replace h2 := h2.keep hb1; replace h3 := h3.keep hb1; replace h4 := h4.keep hb1; replace hb := bthen hb hb1; clear hb1; clear q_a0 f_a0 q_a1 f_a1 q_a2 f_a2 q_a3 f_a3 q_a4 f_a4; obtain ⟨q_a0, f_a0, q_a1, f_a1, q_a2, f_a2, q_a3, f_a3, q_a4, f_a4⟩ := x_a.al; clear q_d0 f_d0 q_d1 f_d1 q_d2 f_d2 q_d3 f_d3 q_d4 f_d4; obtain ⟨q_d0, f_d0, q_d1, f_d1, q_d2, f_d2, q_d3, f_d3, q_d4, f_d4⟩ := x_d.al; clear q_r0 f_r0 q_r1 f_r1 q_r2 f_r2 q_r3 f_r3 q_r4 f_r4; obtain ⟨q_r0, f_r0, q_r1, f_r1, q_r2, f_r2, q_r3, f_r3, q_r4, f_r4⟩ := x_r.al) | (go_at_call 58; (with_reducible refine (RSubZ_any h2 h3 9 (by omega) (by omega) (by omega)).mono ?_); rintro e v4 ⟨A6, n6, c6, rfl, z6, hb1⟩; replace x_a := x_a.keep hb1; replace x_d := x_d.keep hb1; replace x_r := x_r.keep hb1; replace h := h.keep hb1; replace h2 := h2.keep hb1; replace h3 := h3.keep hb1; replace h4 := h4.keep hb1; replace z5 := z5.keep hb1; replace hb := bthen hb hb1; clear hb1; clear q_a0 f_a0 q_a1 f_a1 q_a2 f_a2 q_a3 f_a3 q_a4 f_a4; obtain ⟨q_a0, f_a0, q_a1, f_a1, q_a2, f_a2, q_a3, f_a3, q_a4, f_a4⟩ := x_a.al; clear q_d0 f_d0 q_d1 f_d1 q_d2 f_d2 q_d3 f_d3 q_d4 f_d4; obtain ⟨q_d0, f_d0, q_d1, f_d1, q_d2, f_d2, q_d3, f_d3, q_d4, f_d4⟩ := x_d.al; clear q_r0 f_r0 q_r1 f_r1 q_r2 f_r2 q_r3 f_r3 q_r4 f_r4; obtain ⟨q_r0, f_r0, q_r1, f_r1, q_r2, f_r2, q_r3, f_r3, q_r4, f_r4⟩ := x_r.al))
 go_wp2
 replace x_a := x_a.asideL (b' := (ngB (X - V))) (A' := A5) (n' := n5) (c' := c5) (p' := (ngB (Y - U))) (B' := A6) (m' := n6) (d' := c6) (e' := q) (g := w.heap.size + 1 + 1) (by omega)
 replace x_d := x_d.asideL (b' := (ngB (X - V))) (A' := A5) (n' := n5) (c' := c5) (p' := (ngB (Y - U))) (B' := A6) (m' := n6) (d' := c6) (e' := q) (g := w.heap.size + 1 + 1) (by omega)
 replace h := h.putL (b' := (ngB (X - V))) (A' := A5) (n' := n5) (c' := c5) (p' := (ngB (Y - U))) (B' := A6) (m' := n6) (d' := c6) (e' := q) x_r
 replace h2 := h2.putL (b' := (ngB (X - V))) (A' := A5) (n' := n5) (c' := c5) (p' := (ngB (Y - U))) (B' := A6) (m' := n6) (d' := c6) (e' := q) x_r
 replace h3 := h3.putL (b' := (ngB (X - V))) (A' := A5) (n' := n5) (c' := c5) (p' := (ngB (Y - U))) (B' := A6) (m' := n6) (d' := c6) (e' := q) x_r
 replace h4 := h4.putL (b' := (ngB (X - V))) (A' := A5) (n' := n5) (c' := c5) (p' := (ngB (Y - U))) (B' := A6) (m' := n6) (d' := c6) (e' := q) x_r
 replace z5 := z5.putL (b' := (ngB (X - V))) (A' := A5) (n' := n5) (c' := c5) (p' := (ngB (Y - U))) (B' := A6) (m' := n6) (d' := c6) (e' := q) x_r
 replace z6 := z6.putL (b' := (ngB (X - V))) (A' := A5) (n' := n5) (c' := c5) (p' := (ngB (Y - U))) (B' := A6) (m' := n6) (d' := c6) (e' := q) x_r
 replace hb := put_belowL (g := w.heap.size + 1 + 1) hb (by omega) (.bool (ngB (X - V))) (.slice A5 n5 c5) (.bool (ngB (Y - U))) (.slice A6 n6 c6) (.int .i64 q)
 replace x_r := x_r.put (ngB (X - V)) A5 n5 c5 (ngB (Y - U)) A6 n6 c6 q
 clear q_a0 f_a0 q_a1 f_a1 q_a2 f_a2 q_a3 f_a3 q_a4 f_a4 q_d0 f_d0 q_d1 f_d1 q_d2 f_d2 q_d3 f_d3 q_d4 f_d4 q_r0 f_r0 q_r1 f_r1 q_r2 f_r2 q_r3 f_r3 q_r4 f_r4
 generalize ((((v4.setCell ⟨w.heap.size + 1 + 1, 0, none⟩ (.bool (ngB (X - V)))).setCell ⟨w.heap.size + 1 + 1, 1, none⟩ (.slice A5 n5 c5)).setCell ⟨w.heap.size + 1 + 1, 2, none⟩ (.bool (ngB (Y - U)))).setCell ⟨w.heap.size + 1 + 1, 3, none⟩ (.slice A6 n6 c6)).setCell ⟨w.heap.size + 1 + 1, 4, none⟩ (.int .i64 q) = v5 at *
 obtain ⟨q_a0, f_a0, q_a1, f_a1, q_a2, f_a2, q_a3, f_a3, q_a4, f_a4⟩ := x_a.al
 obtain ⟨q_d0, f_d0, q_d1, f_d1, q_d2, f_d2, q_d3, f_d3, q_d4, f_d4⟩ := x_d.al
 obtain ⟨q_r0, f_r0, q_r1, f_r1, q_r2, f_r2, q_r3, f_r3, q_r4, f_r4⟩ := x_r.al
 refine bodyPost_ret (v := .tuple #[.agg #[.bool (ngB (X - V)), .slice A5 n5 c5, .bool (ngB (Y - U)), .slice A6 n6 c6, .int .i64 q], .int .i64 0]) (by simp [results, Tryz.results20, go_sem, q_r0, q_r1, q_r2, q_r3, q_r4]) rfl ?_
 exact ⟨_, _, _, _, _, _, rfl, z5, z6, hb⟩

set_option maxRecDepth 100000 in
set_option maxHeartbeats 2000000 in
theorem RSub_no {b b2 b3 b4 : Bool} {A A2 A3 A4 : Option Addr} {n c n2 c2 n3 c3 n4 c4 : Nat} {X Y U V q r : Int} {j j2 j3 j4 : Nat} {w : World} (h : Zr w b A n c X j) (h2 : Zr w b2 A2 n2 c2 Y j2) (h3 : Zr w b3 A3 n3 c3 U j3) (h4 : Zr w b4 A4 n4 c4 V j4) (hv : ¬ ((0 ≤ q ∧ q ≤ 2048 ∧ X ≤ Y) ∧ (0 ≤ r ∧ r ≤ 2048 ∧ U ≤ V) ∧ q = r)) (hj : j ≤ 8) (hj2 : j2 ≤ 8) (hj3 : j3 ≤ 8) (hj4 : j4 ≤ 8) :
  Calls Tryz.prog 20 #[.agg #[.bool b, .slice A n c, .bool b2, .slice A2 n2 c2, .int .i64 q], .agg #[.bool b3, .slice A3 n3 c3, .bool b4, .slice A4 n4 c4, .int .i64 r]] w (ErrL w 1) := by
 have HM := Lib.hid (mtB_no hv)
 clear hv
 go_enter Tryz.func20, Tryz.ntmps20
 go_wp2_with fail
 have x_a : Lx (w.alloc (.cells #[.bool b, .slice A n c, .bool b2, .slice A2 n2 c2, .int .i64 q] 26)) (w.heap.size) b A n c b2 A2 n2 c2 q := by have := Lx.new w b A n c b2 A2 n2 c2 q; simpa using this
 replace x_a := x_a.alloc (.cells #[.bool b3, .slice A3 n3 c3, .bool b4, .slice A4 n4 c4, .int .i64 r] 26)
 have x_d : Lx ((w.alloc (.cells #[.bool b, .slice A n c, .bool b2, .slice A2 n2 c2, .int .i64 q] 26)).alloc (.cells #[.bool b3, .slice A3 n3 c3, .bool b4, .slice A4 n4 c4, .int .i64 r] 26)) (w.heap.size + 1) b3 A3 n3 c3 b4 A4 n4 c4 r := by have := Lx.new (w.alloc (.cells #[.bool b, .slice A n c, .bool b2, .slice A2 n2 c2, .int .i64 q] 26)) b3 A3 n3 c3 b4 A4 n4 c4 r; simpa using this
 replace x_a := x_a.alloc (.cells #[.bool false, .slice none 0 0, .bool false, .slice none 0 0, .int .i64 0] 26)
 replace x_d := x_d.alloc (.cells #[.bool false, .slice none 0 0, .bool false, .slice none 0 0, .int .i64 0] 26)
 have x_r : Lx (((w.alloc (.cells #[.bool b, .slice A n c, .bool b2, .slice A2 n2 c2, .int .i64 q] 26)).alloc (.cells #[.bool b3, .slice A3 n3 c3, .bool b4, .slice A4 n4 c4, .int .i64 r] 26)).alloc (.cells #[.bool false, .slice none 0 0, .bool false, .slice none 0 0, .int .i64 0] 26)) (w.heap.size + 1 + 1) false none 0 0 false none 0 0 0 := by have := Lx.new ((w.alloc (.cells #[.bool b, .slice A n c, .bool b2, .slice A2 n2 c2, .int .i64 q] 26)).alloc (.cells #[.bool b3, .slice A3 n3 c3, .bool b4, .slice A4 n4 c4, .int .i64 r] 26)) false none 0 0 false none 0 0 0; simpa using this
 have hb : Below w.heap.size w (((w.alloc (.cells #[.bool b, .slice A n c, .bool b2, .slice A2 n2 c2, .int .i64 q] 26)).alloc (.cells #[.bool b3, .slice A3 n3 c3, .bool b4, .slice A4 n4 c4, .int .i64 r] 26)).alloc (.cells #[.bool false, .slice none 0 0, .bool false, .slice none 0 0, .int .i64 0] 26)) := (Below.alloc (Below.alloc (Below.alloc (Below.refl w.heap.size w) (by simp) (.cells #[.bool b, .slice A n c, .bool b2, .slice A2 n2 c2, .int .i64 q] 26)) (by simp) (.cells #[.bool b3, .slice A3 n3 c3, .bool b4, .slice A4 n4 c4, .int .i64 r] 26)) (by simp; omega) (.cells #[.bool false, .slice none 0 0, .bool false, .slice none 0 0, .int .i64 0] 26))
 generalize ((w.alloc (.cells #[.bool b, .slice A n c, .bool b2, .slice A2 n2 c2, .int .i64 q] 26)).alloc (.cells #[.bool b3, .slice A3 n3 c3, .bool b4, .slice A4 n4 c4, .int .i64 r] 26)).alloc (.cells #[.bool false, .slice none 0 0, .bool false, .slice none 0 0, .int .i64 0] 26) = v1 at *
 replace h := h.keep hb
 replace h2 := h2.keep hb
 replace h3 := h3.keep hb
 replace h4 := h4.keep hb
 obtain ⟨q_a0, f_a0, q_a1, f_a1, q_a2, f_a2, q_a3, f_a3, q_a4, f_a4⟩ := x_a.al
 obtain ⟨q_d0, f_d0, q_d1, f_d1, q_d2, f_d2, q_d3, f_d3, q_d4, f_d4⟩ := x_d.al
 obtain ⟨q_r0, f_r0, q_r1, f_r1, q_r2, f_r2, q_r3, f_r3, q_r4, f_r4⟩ := x_r.al
 go_wp2_with fail
 with_reducible refine (Rboth_any h h2 h3 h4 (by omega) (by omega) (by omega) (by omega)).mono ?_
 rintro e v2 ⟨rfl, hb1⟩
 replace x_a := x_a.keep hb1
 replace x_d := x_d.keep hb1
 replace x_r := x_r.keep hb1
 replace h := h.keep hb1
 replace h2 := h2.keep hb1
 replace h3 := h3.keep hb1
 replace h4 := h4.keep hb1
 replace hb := bthen hb hb1
 clear hb1
 clear q_a0 f_a0 q_a1 f_a1 q_a2 f_a2 q_a3 f_a3 q_a4 f_a4; obtain ⟨q_a0, f_a0, q_a1, f_a1, q_a2, f_a2, q_a3, f_a3, q_a4, f_a4⟩ := x_a.al
 clear q_d0 f_d0 q_d1 f_d1 q_d2 f_d2 q_d3 f_d3 q_d4 f_d4; obtain ⟨q_d0, f_d0, q_d1, f_d1, q_d2, f_d2, q_d3, f_d3, q_d4, f_d4⟩ := x_d.al
 clear q_r0 f_r0 q_r1 f_r1 q_r2 f_r2 q_r3 f_r3 q_r4 f_r4; obtain ⟨q_r0, f_r0, q_r1, f_r1, q_r2, f_r2, q_r3, f_r3, q_r4, f_r4⟩ := x_r.al
 rw [HM.out]
 go_wp2_with fail
 go_wp2
 replace x_a := x_a.asideL (b' := false) (A' := none) (n' := 0) (c' := 0) (p' := false) (B' := none) (m' := 0) (d' := 0) (e' := 0) (g := w.heap.size + 1 + 1) (by omega)
 replace x_d := x_d.asideL (b' := false) (A' := none) (n' := 0) (c' := 0) (p' := false) (B' := none) (m' := 0) (d' := 0) (e' := 0) (g := w.heap.size + 1 + 1) (by omega)
 replace h := h.putL (b' := false) (A' := none) (n' := 0) (c' := 0) (p' := false) (B' := none) (m' := 0) (d' := 0) (e' := 0) x_r
 replace h2 := h2.putL (b' := false) (A' := none) (n' := 0) (c' := 0) (p' := false) (B' := none) (m' := 0) (d' := 0) (e' := 0) x_r
 replace h3 := h3.putL (b' := false) (A' := none) (n' := 0) (c' := 0) (p' := false) (B' := none) (m' := 0) (d' := 0) (e' := 0) x_r
 replace h4 := h4.putL (b' := false) (A' := none) (n' := 0) (c' := 0) (p' := false) (B' := none) (m' := 0) (d' := 0) (e' := 0) x_r
 replace hb := put_belowL (g := w.heap.size + 1 + 1) hb (by omega) (.bool false) (.slice none 0 0) (.bool false) (.slice none 0 0) (.int .i64 0)
 replace x_r := x_r.put false none 0 0 false none 0 0 0
 clear q_a0 f_a0 q_a1 f_a1 q_a2 f_a2 q_a3 f_a3 q_a4 f_a4 q_d0 f_d0 q_d1 f_d1 q_d2 f_d2 q_d3 f_d3 q_d4 f_d4 q_r0 f_r0 q_r1 f_r1 q_r2 f_r2 q_r3 f_r3 q_r4 f_r4
 generalize ((((v2.setCell ⟨w.heap.size + 1 + 1, 0, none⟩ (.bool false)).setCell ⟨w.heap.size + 1 + 1, 1, none⟩ (.slice none 0 0)).setCell ⟨w.heap.size + 1 + 1, 2, none⟩ (.bool false)).setCell ⟨w.heap.size + 1 + 1, 3, none⟩ (.slice none 0 0)).setCell ⟨w.heap.size + 1 + 1, 4, none⟩ (.int .i64 0) = v3 at *
 obtain ⟨q_a0, f_a0, q_a1, f_a1, q_a2, f_a2, q_a3, f_a3, q_a4, f_a4⟩ := x_a.al
 obtain ⟨q_d0, f_d0, q_d1, f_d1, q_d2, f_d2, q_d3, f_d3, q_d4, f_d4⟩ := x_d.al
 obtain ⟨q_r0, f_r0, q_r1, f_r1, q_r2, f_r2, q_r3, f_r3, q_r4, f_r4⟩ := x_r.al
 refine bodyPost_ret (v := .tuple #[.agg #[.bool false, .slice none 0 0, .bool false, .slice none 0 0, .int .i64 0], .int .i64 1]) (by simp [results, Tryz.results20, go_sem, q_r0, q_r1, q_r2, q_r3, q_r4]) rfl ?_
 exact ⟨rfl, hb⟩

set_option maxRecDepth 100000 in
set_option maxHeartbeats 8000000 in
theorem RMul_yes {b b2 b3 b4 : Bool} {A A2 A3 A4 : Option Addr} {n c n2 c2 n3 c3 n4 c4 : Nat} {X Y U V q : Int} {j j2 j3 j4 : Nat} {w : World} (h : Zr w b A n c X j) (h2 : Zr w b2 A2 n2 c2 Y j2) (h3 : Zr w b3 A3 n3 c3 U j3) (h4 : Zr w b4 A4 n4 c4 V j4) (hv : 0 ≤ q ∧ q ≤ 2048 ∧ X ≤ Y) (hv2 : U ≤ V) (hj : j ≤ 8) (hj2 : j2 ≤ 8) (hj3 : j3 ≤ 8) (hj4 : j4 ≤ 8) :
  Calls Tryz.prog 22 #[.agg #[.bool b, .slice A n c, .bool b2, .slice A2 n2 c2, .int .i64 q], .agg #[.bool b3, .slice A3 n3 c3, .bool b4, .slice A4 n4 c4, .int .i64 q]] w (OuL w (mn4 (fun x y => flI (x * y) (-q)) X Y U V) (mx4 (fun x y => -flI (-(x * y)) (-q)) X Y U V) q 160) := by
 have HM := Lib.hid (mtB_yes (r := q) ⟨hv, ⟨hv.1, hv.2.1, hv2⟩, rfl⟩)
 have e1 := fl_mn4 (fun x y => x * y) X Y U V (-q)
 have e2 := fl_mx4 (fun x y => x * y) X Y U V (-q)
 rw [← e1, ← e2]
 clear e1 e2
 have hq : 0 ≤ q ∧ q ≤ 2048 := ⟨hv.1, hv.2.1⟩
 clear hv hv2
 unfold mn4 mx4
 obtain ⟨E0, hE0⟩ : ∃ E, X * U = E := ⟨_, rfl⟩
 obtain ⟨E1, hE1⟩ : ∃ E, X * V = E := ⟨_, rfl⟩
 obtain ⟨E2, hE2⟩ : ∃ E, Y * U = E := ⟨_, rfl⟩
 obtain ⟨E3, hE3⟩ : ∃ E, Y * V = E := ⟨_, rfl⟩
 simp only [hE0, hE1, hE2, hE3]
 have HE0 := Lib.hid hE0; clear hE0
 have HE1 := Lib.hid hE1; clear hE1
 have HE2 := Lib.hid hE2; clear hE2
 have HE3 := Lib.hid hE3; clear hE3
 obtain ⟨M, hM⟩ : ∃ M, min (min (min E0 E1) (E2)) (E3) = M := ⟨_, rfl⟩
 obtain ⟨N, hN⟩ : ∃ N, max (max (max E0 E1) (E2)) (E3) = N := ⟨_, rfl⟩
 rw [hM, hN]
 have HMn := Lib.hid hM; have HMx := Lib.hid hN; clear hM hN
 obtain ⟨L, hL⟩ : ∃ L, flI M (-q) = L := ⟨_, rfl⟩
 obtain ⟨H, hH⟩ : ∃ H, -flI (-N) (-q) = H := ⟨_, rfl⟩
 rw [hL, hH]
 have HL := Lib.hid hL; have HH := Lib.hid hH; clear hL hH
 go_enter Tryz.func22, Tryz.ntmps22
 go_wp2_with fail
 have x_a : Lx (w.alloc (.cells #[.bool b, .slice A n c, .bool b2, .slice A2 n2 c2, .int .i64 q] 26)) (w.heap.size) b A n c b2 A2 n2 c2 q := by have := Lx.new w b A n c b2 A2 n2 c2 q; simpa using this
 replace x_a := x_a.alloc (.cells #[.bool b3, .slice A3 n3 c3, .bool b4, .slice A4 n4 c4, .int .i64 q] 26)
 have x_d : Lx ((w.alloc (.cells #[.bool b, .slice A n c, .bool b2, .slice A2 n2 c2, .int .i64 q] 26)).alloc (.cells #[.bool b3, .slice A3 n3 c3, .bool b4, .slice A4 n4 c4, .int .i64 q] 26)) (w.heap.size + 1) b3 A3 n3 c3 b4 A4 n4 c4 q := by have := Lx.new (w.alloc (.cells #[.bool b, .slice A n c, .bool b2, .slice A2 n2 c2, .int .i64 q] 26)) b3 A3 n3 c3 b4 A4 n4 c4 q; simpa using this
 replace x_a := x_a.alloc (.cells #[.bool false, .slice none 0 0, .bool false, .slice none 0 0, .int .i64 0] 26)
 replace x_d := x_d.alloc (.cells #[.bool false, .slice none 0 0, .bool false, .slice none 0 0, .int .i64 0] 26)
 have x_r : Lx (((w.alloc (.cells #[.bool b, .slice A n c, .bool b2, .slice A2 n2 c2, .int .i64 q] 26)).alloc (.cells #[.bool b3, .slice A3 n3 c3, .bool b4, .slice A4 n4 c4, .int .i64 q] 26)).alloc (.cells #[.bool false, .slice none 0 0, .bool false, .slice none 0 0, .int .i64 0] 26)) (w.heap.size + 1 + 1) false none 0 0 false none 0 0 0 := by have := Lx.new ((w.alloc (.cells #[.bool b, .slice A n c, .bool b2, .slice A2 n2 c2, .int .i64 q] 26)).alloc (.cells #[.bool b3, .slice A3 n3 c3, .bool b4, .slice A4 n4 c4, .int .i64 q] 26)) false none 0 0 false none 0 0 0; simpa using this
 have hb : Below w.heap.size w (((w.alloc (.cells #[.bool b, .slice A n c, .bool b2, .slice A2 n2 c2, .int .i64 q] 26)).alloc (.cells #[.bool b3, .slice A3 n3 c3, .bool b4, .slice A4 n4 c4, .int .i64 q] 26)).alloc (.cells #[.bool false, .slice none 0 0, .bool false, .slice none 0 0, .int .i64 0] 26)) := (Below.alloc (Below.alloc (Below.alloc (Below.refl w.heap.size w) (by simp) (.cells #[.bool b, .slice A n c, .bool b2, .slice A2 n2 c2, .int .i64 q] 26)) (by simp) (.cells #[.bool b3, .slice A3 n3 c3, .bool b4, .slice A4 n4 c4, .int .i64 q] 26)) (by simp; omega) (.cells #[.bool false, .slice none 0 0, .bool false, .slice none 0 0, .int .i64 0] 26))
 generalize ((w.alloc (.cells #[.bool b, .slice A n c, .bool b2, .slice A2 n2 c2, .int .i64 q] 26)).alloc (.cells #[.bool b3, .slice A3 n3 c3, .bool b4, .slice A4 n4 c4, .int .i64 q] 26)).alloc (.cells #[.bool false, .slice none 0 0, .bool false, .slice none 0 0, .int .i64 0] 26) = v1 at *
 replace h := h.keep hb
 replace h2 := h2.keep hb
 replace h3 := h3.keep hb
 replace h4 := h4.keep hb
 obtain ⟨q_a0, f_a0, q_a1, f_a1, q_a2, f_a2, q_a3, f_a3, q_a4, f_a4⟩ := x_a.al
 obtain ⟨q_d0, f_d0, q_d1, f_d1, q_d2, f_d2, q_d3, f_d3, q_d4, f_d4⟩ := x_d.al
 obtain ⟨q_r0, f_r0, q_r1, f_r1, q_r2, f_r2, q_r3, f_r3, q_r4, f_r4⟩ := x_r.al
 go_wp2_with fail
 with_reducible refine (Rboth_any h h2 h3 h4 (by omega) (by omega) (by omega) (by omega)).mono ?_
 rintro e v2 ⟨rfl, hb1⟩
 replace x_a := x_a.keep hb1
 replace x_d := x_d.keep hb1
 replace x_r := x_r.keep hb1
 replace h := h.keep hb1
 replace h2 := h2.keep hb1
 replace h3 := h3.keep hb1
 replace h4 := h4.keep hb1
 replace hb := bthen hb hb1
 clear hb1
 clear q_a0 f_a0 q_a1 f_a1 q_a2 f_a2 q_a3 f_a3 q_a4 f_a4; obtain ⟨q_a0, f_a0, q_a1, f_a1, q_a2, f_a2, q_a3, f_a3, q_a4, f_a4⟩ := x_a.al
 clear q_d0 f_d0 q_d1 f_d1 q_d2 f_d2 q_d3 f_d3 q_d4 f_d4; obtain ⟨q_d0, f_d0, q_d1, f_d1, q_d2, f_d2, q_d3, f_d3, q_d4, f_d4⟩ := x_d.al
 clear q_r0 f_r0 q_r1 f_r1 q_r2 f_r2 q_r3 f_r3 q_r4 f_r4; obtain ⟨q_r0, f_r0, q_r1, f_r1, q_r2, f_r2, q_r3, f_r3, q_r4, f_r4⟩ := x_r.al
 rw [HM.out]
 go_wp2_with fail
 go_region_held3 (fun w' => w'.cell? ⟨w.heap.size, 0, none⟩ = some (.bool b) ∧ w'.cell? ⟨w.heap.size, 1, none⟩ = some (.slice A n c) ∧ w'.cell? ⟨w.heap.size, 2, none⟩ = some (.bool b2) ∧ w'.cell? ⟨w.heap.size, 3, none⟩ = some (.slice A2 n2 c2) ∧ w'.cell? ⟨w.heap.size, 4, none⟩ = some (.int .i64 q) ∧ w'.cell? ⟨w.heap.size + 1, 0, none⟩ = some (.bool b3) ∧ w'.cell? ⟨w.heap.size + 1, 1, none⟩ = some (.slice A3 n3 c3) ∧ w'.cell? ⟨w.heap.size + 1, 2, none⟩ = some (.bool b4) ∧ w'.cell? ⟨w.heap.size + 1, 3, none⟩ = some (.slice A4 n4 c4) ∧ w'.cell? ⟨w.heap.size + 1, 4, none⟩ = some (.int .i64 q))
  (first | (with_reducible exact ⟨x_a.c0, x_a.c1, x_a.c2, x_a.c3, x_a.c4, x_d.c0, x_d.c1, x_d.c2, x_d.c3, x_d.c4⟩) | (with_reducible exact ⟨(x_a.aside (by omega)).c0, (x_a.aside (by omega)).c1, (x_a.aside (by omega)).c2, (x_a.aside (by omega)).c3, (x_a.aside (by omega)).c4, (x_d.aside (by omega)).c0, (x_d.aside (by omega)).c1, (x_d.aside (by omega)).c2, (x_d.aside (by omega)).c3, (x_d.aside (by omega)).c4⟩) | (with_reducible exact ⟨((x_a.aside (by omega)).aside (by omega)).c0, ((x_a.aside (by omega)).aside (by omega)).c1, ((x_a.aside (by omega)).aside (by omega)).c2, ((x_a.aside (by omega)).aside (by omega)).c3, ((x_a.aside (by omega)).aside (by omega)).c4, ((x_d.aside (by omega)).aside (by omega)).c0, ((x_d.aside (by omega)).aside (by omega)).c1, ((x_d.aside (by omega)).aside (by omega)).c2, ((x_d.aside (by omega)).aside (by omega)).c3, ((x_d.aside (by omega)).aside (by omega)).c4⟩) | (with_reducible exact ⟨(x_a.asideD (by omega)).c0, (x_a.asideD (by omega)).c1, (x_a.asideD (by omega)).c2, (x_a.asideD (by omega)).c3, (x_a.asideD (by omega)).c4, (x_d.asideD (by omega)).c0, (x_d.asideD (by omega)).c1, (x_d.asideD (by omega)).c2, (x_d.asideD (by omega)).c3, (x_d.asideD (by omega)).c4⟩) | (with_reducible exact ⟨((x_a.asideD (by omega)).asideD (by omega)).c0, ((x_a.asideD (by omega)).asideD (by omega)).c1, ((x_a.asideD (by omega)).asideD (by omega)).c2, ((x_a.asideD (by omega)).asideD (by omega)).c3, ((x_a.asideD (by omega)).asideD (by omega)).c4, ((x_d.asideD (by omega)).asideD (by omega)).c0, ((x_d.asideD (by omega)).asideD (by omega)).c1, ((x_d.asideD (by omega)).asideD (by omega)).c2, ((x_d.asideD (by omega)).asideD (by omega)).c3, ((x_d.asideD (by omega)).asideD (by omega)).c4⟩) | (with_reducible exact ⟨(x_a.asideL (by omega)).c0, (x_a.asideL (by omega)).c1, (x_a.asideL (by omega)).c2, (x_a.asideL (by omega)).c3, (x_a.asideL (by omega)).c4, (x_d.asideL (by omega)).c0, (x_d.asideL (by omega)).c1, (x_d.asideL (by omega)).c2, (x_d.asideL (by omega)).c3, (x_d.asideL (by omega)).c4⟩) | (with_reducible exact ⟨((x_a.asideL (by omega)).asideL (by omega)).c0, ((x_a.asideL (by omega)).asideL (by omega)).c1, ((x_a.asideL (by omega)).asideL (by omega)).c2, ((x_a.asideL (by omega)).asideL (by omega)).c3, ((x_a.asideL (by omega)).asideL (by omega)).c4, ((x_d.asideL (by omega)).asideL (by omega)).c0, ((x_d.asideL (by omega)).asideL (by omega)).c1, ((x_d.asideL (by omega)).asideL (by omega)).c2, ((x_d.asideL (by omega)).asideL (by omega)).c3, ((x_d.asideL (by omega)).asideL (by omega)).c4⟩) | (with_reducible exact ⟨(x_a.alloc _).c0, (x_a.alloc _).c1, (x_a.alloc _).c2, (x_a.alloc _).c3, (x_a.alloc _).c4, (x_d.alloc _).c0, (x_d.alloc _).c1, (x_d.alloc _).c2, (x_d.alloc _).c3, (x_d.alloc _).c4⟩) | go_keep)
  (first | (go_at_call 62; (with_reducible refine (RMulZ_any h.drw h3.drw 16 (by omega) (by omega)).mono ?_); rintro e v3 ⟨A10, n10, c10, rfl, z10, hb1⟩; replace hb1 := undrew hb1; replace x_a := x_a.keep hb1; replace x_d := x_d.keep hb1; replace x_r := x_r.keep hb1; replace h := h.keep hb1; replace h2 := h2.keep hb1; replace h3 := h3.keep hb1; replace h4 := h4.keep hb1; replace hb := bthen hb hb1; clear hb1; clear q_a0 f_a0 q_a1 f_a1 q_a2 f_a2 q_a3 f_a3 q_a4 f_a4; obtain ⟨q_a0, f_a0, q_a1, f_a1, q_a2, f_a2, q_a3, f_a3, q_a4, f_a4⟩ := x_a.al; clear q_d0 f_d0 q_d1 f_d1 q_d2 f_d2 q_d3 f_d3 q_d4 f_d4; obtain ⟨q_d0, f_d0, q_d1, f_d1, q_d2, f_d2, q_d3, f_d3, q_d4, f_d4⟩ := x_d.al; clear q_r0 f_r0 q_r1 f_r1 q_r2 f_r2 q_r3 f_r3 q_r4 f_r4; obtain ⟨q_r0, f_r0, q_r1, f_r1, q_r2, f_r2, q_r3, f_r3, q_r4, f_r4⟩ := x_r.al; rw [HE0.out] at z10 ⊢) | (go_at_call 62; (with_reducible refine (RMulZ_any h h4 16 (by omega) (by omega)).mono ?_); rintro e v4 ⟨A11, n11, c11, rfl, z11, hb1⟩; replace x_a := x_a.keep hb1; replace x_d := x_d.keep hb1; replace x_r := x_r.keep hb1; replace h := h.keep hb1; replace h2 := h2.keep hb1; replace h3 := h3.keep hb1; replace h4 := h4.keep hb1; replace z10 := z10.keep hb1; replace hb := bthen hb hb1; clear hb1; clear q_a0 f_a0 q_a1 f_a1 q_a2 f_a2 q_a3 f_a3 q_a4 f_a4; obtain ⟨q_a0, f_a0, q_a1, f_a1, q_a2, f_a2, q_a3, f_a3, q_a4, f_a4⟩ := x_a.al; clear q_d0 f_d0 q_d1 f_d1 q_d2 f_d2 q_d3 f_d3 q_d4 f_d4; obtain ⟨q_d0, f_d0, q_d1, f_d1, q_d2, f_d2, q_d3, f_d3, q_d4, f_d4⟩ := x_d.al; clear q_r0 f_r0 q_r1 f_r1 q_r2 f_r2 q_r3 f_r3 q_r4 f_r4; obtain ⟨q_r0, f_r0, q_r1, f_r1, q_r2, f_r2, q_r3, f_r3, q_r4, f_r4⟩ := x_r.al; rw [HE1.out] at z11 ⊢) | (go_at_call 62; (with_reducible refine (RMulZ_any h2 h3 16 (by omega) (by omega)).mono ?_); rintro e v5 ⟨A12, n12, c12, rfl, z12, hb1⟩; replace x_a := x_a.keep hb1; replace x_d := x_d.keep hb1; replace x_r := x_r.keep hb1; replace h := h.keep hb1; replace h2 := h2.keep hb1; replace h3 := h3.keep hb1; replace h4 := h4.keep hb1; replace z10 := z10.keep hb1; replace z11 := z11.keep hb1; replace hb := bthen hb hb1; clear hb1; clear q_a0 f_a0 q_a1 f_a1 q_a2 f_a2 q_a3 f_a3 q_a4 f_a4; obtain ⟨q_a0, f_a0, q_a1, f_a1, q_a2, f_a2, q_a3, f_a3, q_a4, f_a4⟩ := x_a.al; clear q_d0 f_d0 q_d1 f_d1 q_d2 f_d2 q_d3 f_d3 q_d4 f_d4; obtain ⟨q_d0, f_d0, q_d1, f_d1, q_d2, f_d2, q_d3, f_d3, q_d4, f_d4⟩ := x_d.al; clear q_r0 f_r0 q_r1 f_r1 q_r2 f_r2 q_r3 f_r3 q_r4 f_r4; obtain ⟨q_r0, f_r0, q_r1, f_r1, q_r2, f_r2, q_r3, f_r3, q_r4, f_r4⟩ := x_r.al; rw [HE2.out] at z12 ⊢) | (go_at_call 62; (with_reducible refine (RMulZ_any h2 h4 16 (by omega) (by omega)).mono ?_); rintro e v6 ⟨A13, n13, c13, rfl, z13, hb1⟩; replace x_a := x_a.keep hb1; replace x_d := x_d.keep hb1; replace x_r := x_r.keep hb1; replace h := h.keep hb1; replace h2 := h2.keep hb1; replace h3 := h3.keep hb1; replace h4 := h4.keep hb1; replace z10 := z10.keep hb1; replace z11 := z11.keep hb1; replace z12 := z12.keep hb1; replace hb := bthen hb hb1; clear hb1; clear q_a0 f_a0 q_a1 f_a1 q_a2 f_a2 q_a3 f_a3 q_a4 f_a4; obtain ⟨q_a0, f_a0, q_a1, f_a1, q_a2, f_a2, q_a3, f_a3, q_a4, f_a4⟩ := x_a.al; clear q_d0 f_d0 q_d1 f_d1 q_d2 f_d2 q_d3 f_d3 q_d4 f_d4; obtain ⟨q_d0, f_d0, q_d1, f_d1, q_d2, f_d2, q_d3, f_d3, q_d4, f_d4⟩ := x_d.al; clear q_r0 f_r0 q_r1 f_r1 q_r2 f_r2 q_r3 f_r3 q_r4 f_r4; obtain ⟨q_r0, f_r0, q_r1, f_r1, q_r2, f_r2, q_r3, f_r3, q_r4, f_r4⟩ := x_r.al; rw [HE3.out] at z13 ⊢))
 go_wp2_with fail
 have hb1 := below_alloc v6 (.cells #[.bool (ngB E0), .slice A10 n10 c10, .bool (ngB E1), .slice A11 n11 c11, .bool (ngB E2), .slice A12 n12 c12, .bool (ngB E3), .slice A13 n13 c13] 24)
 have l_a_s := x_a.lt
 have l_d_s := x_d.lt
 have l_r_s := x_r.lt
 have x_s := S4x.new v6 (ngB E0) A10 n10 c10 (ngB E1) A11 n11 c11 (ngB E2) A12 n12 c12 (ngB E3) A13 n13 c13
 have e_s : w.heap.size ≤ v6.heap.size := hb.size
 clear q_a0 f_a0 q_a1 f_a1 q_a2 f_a2 q_a3 f_a3 q_a4 f_a4 q_d0 f_d0 q_d1 f_d1 q_d2 f_d2 q_d3 f_d3 q_d4 f_d4 q_r0 f_r0 q_r1 f_r1 q_r2 f_r2 q_r3 f_r3 q_r4 f_r4
 replace x_a := x_a.keep hb1
 replace x_d := x_d.keep hb1
 replace x_r := x_r.keep hb1
 replace h := h.keep hb1
 replace h2 := h2.keep hb1
 replace h3 := h3.keep hb1
 replace h4 := h4.keep hb1
 replace z10 := z10.keep hb1
 replace z11 := z11.keep hb1
 replace z12 := z12.keep hb1
 replace z13 := z13.keep hb1
 replace hb := bthen hb hb1
 clear hb1
 generalize v6.alloc (.cells #[.bool (ngB E0), .slice A10 n10 c10, .bool (ngB E1), .slice A11 n11 c11, .bool (ngB E2), .slice A12 n12 c12, .bool (ngB E3), .slice A13 n13 c13] 24) = v7 at *
 obtain ⟨q_a0, f_a0, q_a1, f_a1, q_a2, f_a2, q_a3, f_a3, q_a4, f_a4⟩ := x_a.al
 obtain ⟨q_d0, f_d0, q_d1, f_d1, q_d2, f_d2, q_d3, f_d3, q_d4, f_d4⟩ := x_d.al
 obtain ⟨q_r0, f_r0, q_r1, f_r1, q_r2, f_r2, q_r3, f_r3, q_r4, f_r4⟩ := x_r.al
 obtain ⟨q_s0, f_s0, q_s1, f_s1, q_s2, f_s2, q_s3, f_s3, q_s4, f_s4, q_s5, f_s5, q_s6, f_s6, q_s7, f_s7⟩ := x_s.al
 clear q_s0 f_s0 q_s1 f_s1 q_s2 f_s2 q_s3 f_s3 q_s4 f_s4 q_s5 f_s5 q_s6 f_s6 q_s7 f_s7
 clear q_d0 f_d0 q_d1 f_d1 q_d2 f_d2 q_d3 f_d3 q_d4 f_d4
 go_region_held3 (fun w' => w'.cell? ⟨w.heap.size, 0, none⟩ = some (.bool b) ∧ w'.cell? ⟨w.heap.size, 1, none⟩ = some (.slice A n c) ∧ w'.cell? ⟨w.heap.size, 2, none⟩ = some (.bool b2) ∧ w'.cell? ⟨w.heap.size, 3, none⟩ = some (.slice A2 n2 c2) ∧ w'.cell? ⟨w.heap.size, 4, none⟩ = some (.int .i64 q))
  (first | (with_reducible exact ⟨x_a.c0, x_a.c1, x_a.c2, x_a.c3, x_a.c4⟩) | (with_reducible exact ⟨(x_a.aside (by omega)).c0, (x_a.aside (by omega)).c1, (x_a.aside (by omega)).c2, (x_a.aside (by omega)).c3, (x_a.aside (by omega)).c4⟩) | (with_reducible exact ⟨((x_a.aside (by omega)).aside (by omega)).c0, ((x_a.aside (by omega)).aside (by omega)).c1, ((x_a.aside (by omega)).aside (by omega)).c2, ((x_a.aside (by omega)).aside (by omega)).c3, ((x_a.aside (by omega)).aside (by omega)).c4⟩) | (with_reducible exact ⟨(x_a.asideD (by omega)).c0, (x_a.asideD (by omega)).c1, (x_a.asideD (by omega)).c2, (x_a.asideD (by omega)).c3, (x_a.asideD (by omega)).c4⟩) | (with_reducible exact ⟨((x_a.asideD (by omega)).asideD (by omega)).c0, ((x_a.asideD (by omega)).asideD (by omega)).c1, ((x_a.asideD (by omega)).asideD (by omega)).c2, ((x_a.asideD (by omega)).asideD (by omega)).c3, ((x_a.asideD (by omega)).asideD (by omega)).c4⟩) | (with_reducible exact ⟨(x_a.asideL (by omega)).c0, (x_a.asideL (by omega)).c1, (x_a.asideL (by omega)).c2, (x_a.asideL (by omega)).c3, (x_a.asideL (by omega)).c4⟩) | (with_reducible exact ⟨((x_a.asideL (by omega)).asideL (by omega)).c0, ((x_a.asideL (by omega)).asideL (by omega)).c1, ((x_a.asideL (by omega)).asideL (by omega)).c2, ((x_a.asideL (by omega)).asideL (by omega)).c3, ((x_a.asideL (by omega)).asideL (by omega)).c4⟩) | go_keep)
  (first | (go_at_call 63; (with_reducible refine (least4_any x_s.drw z10.drw z11.drw z12.drw z13.drw (by omega)).mono ?_); rintro e v8 ⟨A5, n5, c5, rfl, z5, hb1⟩; replace hb1 := undrew hb1; replace x_a := x_a.keep hb1; replace x_d := x_d.keep hb1; replace x_r := x_r.keep hb1; replace x_s := x_s.keep hb1; replace h := h.keep hb1; replace h2 := h2.keep hb1; replace h3 := h3.keep hb1; replace h4 := h4.keep hb1; replace z10 := z10.keep hb1; replace z11 := z11.keep hb1; replace z12 := z12.keep hb1; replace z13 := z13.keep hb1; replace hb := bthen hb hb1; clear hb1; clear q_a0 f_a0 q_a1 f_a1 q_a2 f_a2 q_a3 f_a3 q_a4 f_a4; obtain ⟨q_a0, f_a0, q_a1, f_a1, q_a2, f_a2, q_a3, f_a3, q_a4, f_a4⟩ := x_a.al; clear q_r0 f_r0 q_r1 f_r1 q_r2 f_r2 q_r3 f_r3 q_r4 f_r4; obtain ⟨q_r0, f_r0, q_r1, f_r1, q_r2, f_r2, q_r3, f_r3, q_r4, f_r4⟩ := x_r.al; rw [HMn.out] at z5 ⊢) | (go_at_call 47; (with_reducible refine (RDown_any z5.zr q (by omega) 160 (by omega) (by omega)).mono ?_); rintro e v9 ⟨A7, n7, c7, rfl, z7, hb1⟩; replace x_a := x_a.keep hb1; replace x_d := x_d.keep hb1; replace x_r := x_r.keep hb1; replace x_s := x_s.keep hb1; replace h := h.keep hb1; replace h2 := h2.keep hb1; replace h3 := h3.keep hb1; replace h4 := h4.keep hb1; replace z10 := z10.keep hb1; replace z11 := z11.keep hb1; replace z12 := z12.keep hb1; replace z13 := z13.keep hb1; replace z5 := z5.keep hb1; replace hb := bthen hb hb1; clear hb1; clear q_a0 f_a0 q_a1 f_a1 q_a2 f_a2 q_a3 f_a3 q_a4 f_a4; obtain ⟨q_a0, f_a0, q_a1, f_a1, q_a2, f_a2, q_a3, f_a3, q_a4, f_a4⟩ := x_a.al; clear q_r0 f_r0 q_r1 f_r1 q_r2 f_r2 q_r3 f_r3 q_r4 f_r4; obtain ⟨q_r0, f_r0, q_r1, f_r1, q_r2, f_r2, q_r3, f_r3, q_r4, f_r4⟩ := x_r.al; rw [HL.out] at z7 ⊢) | (go_at_call 64; (with_reducible refine (greatest4_any x_s z10 z11 z12 z13 (by omega)).mono ?_); rintro e v10 ⟨A6, n6, c6, rfl, z6, hb1⟩; replace x_a := x_a.keep hb1; replace x_d := x_d.keep hb1; replace x_r := x_r.keep hb1; replace x_s := x_s.keep hb1; replace h := h.keep hb1; replace h2 := h2.keep hb1; replace h3 := h3.keep hb1; replace h4 := h4.keep hb1; replace z10 := z10.keep hb1; replace z11 := z11.keep hb1; replace z12 := z12.keep hb1; replace z13 := z13.keep hb1; replace z5 := z5.keep hb1; replace z7 := z7.keep hb1; replace hb := bthen hb hb1; clear hb1; clear q_a0 f_a0 q_a1 f_a1 q_a2 f_a2 q_a3 f_a3 q_a4 f_a4; obtain ⟨q_a0, f_a0, q_a1, f_a1, q_a2, f_a2, q_a3, f_a3, q_a4, f_a4⟩ := x_a.al; clear q_r0 f_r0 q_r1 f_r1 q_r2 f_r2 q_r3 f_r3 q_r4 f_r4; obtain ⟨q_r0, f_r0, q_r1, f_r1, q_r2, f_r2, q_r3, f_r3, q_r4, f_r4⟩ := x_r.al; rw [HMx.out] at z6 ⊢) | (go_at_call 48; (with_reducible refine (ROver_any z6.zr q (by omega) 160 (by omega) (by omega)).mono ?_); rintro e v11 ⟨A8, n8, c8, rfl, z8, hb1⟩; replace x_a := x_a.keep hb1; replace x_d := x_d.keep hb1; replace x_r := x_r.keep hb1; replace x_s := x_s.keep hb1; replace h := h.keep hb1; replace h2 := h2.keep hb1; replace h3 := h3.keep hb1; replace h4 := h4.keep hb1; replace z10 := z10.keep hb1; replace z11 := z11.keep hb1; replace z12 := z12.keep hb1; replace z13 := z13.keep hb1; replace z5 := z5.keep hb1; replace z7 := z7.keep hb1; replace z6 := z6.keep hb1; replace hb := bthen hb hb1; clear hb1; clear q_a0 f_a0 q_a1 f_a1 q_a2 f_a2 q_a3 f_a3 q_a4 f_a4; obtain ⟨q_a0, f_a0, q_a1, f_a1, q_a2, f_a2, q_a3, f_a3, q_a4, f_a4⟩ := x_a.al; clear q_r0 f_r0 q_r1 f_r1 q_r2 f_r2 q_r3 f_r3 q_r4 f_r4; obtain ⟨q_r0, f_r0, q_r1, f_r1, q_r2, f_r2, q_r3, f_r3, q_r4, f_r4⟩ := x_r.al; rw [HH.out] at z8 ⊢))
 go_wp2
 replace x_a := x_a.asideL (b' := (ngB L)) (A' := A7) (n' := n7) (c' := c7) (p' := (ngB H)) (B' := A8) (m' := n8) (d' := c8) (e' := q) (g := w.heap.size + 1 + 1) (by omega)
 replace x_d := x_d.asideL (b' := (ngB L)) (A' := A7) (n' := n7) (c' := c7) (p' := (ngB H)) (B' := A8) (m' := n8) (d' := c8) (e' := q) (g := w.heap.size + 1 + 1) (by omega)
 replace x_s := x_s.asideL (b' := (ngB L)) (A' := A7) (n' := n7) (c' := c7) (p' := (ngB H)) (B' := A8) (m' := n8) (d' := c8) (e' := q) (g := w.heap.size + 1 + 1) (by omega)
 replace h := h.putL (b' := (ngB L)) (A' := A7) (n' := n7) (c' := c7) (p' := (ngB H)) (B' := A8) (m' := n8) (d' := c8) (e' := q) x_r
 replace h2 := h2.putL (b' := (ngB L)) (A' := A7) (n' := n7) (c' := c7) (p' := (ngB H)) (B' := A8) (m' := n8) (d' := c8) (e' := q) x_r
 replace h3 := h3.putL (b' := (ngB L)) (A' := A7) (n' := n7) (c' := c7) (p' := (ngB H)) (B' := A8) (m' := n8) (d' := c8) (e' := q) x_r
 replace h4 := h4.putL (b' := (ngB L)) (A' := A7) (n' := n7) (c' := c7) (p' := (ngB H)) (B' := A8) (m' := n8) (d' := c8) (e' := q) x_r
 replace z10 := z10.putL (b' := (ngB L)) (A' := A7) (n' := n7) (c' := c7) (p' := (ngB H)) (B' := A8) (m' := n8) (d' := c8) (e' := q) x_r
 replace z11 := z11.putL (b' := (ngB L)) (A' := A7) (n' := n7) (c' := c7) (p' := (ngB H)) (B' := A8) (m' := n8) (d' := c8) (e' := q) x_r
 replace z12 := z12.putL (b' := (ngB L)) (A' := A7) (n' := n7) (c' := c7) (p' := (ngB H)) (B' := A8) (m' := n8) (d' := c8) (e' := q) x_r
 replace z13 := z13.putL (b' := (ngB L)) (A' := A7) (n' := n7) (c' := c7) (p' := (ngB H)) (B' := A8) (m' := n8) (d' := c8) (e' := q) x_r
 replace z5 := z5.putL (b' := (ngB L)) (A' := A7) (n' := n7) (c' := c7) (p' := (ngB H)) (B' := A8) (m' := n8) (d' := c8) (e' := q) x_r
 replace z7 := z7.putL (b' := (ngB L)) (A' := A7) (n' := n7) (c' := c7) (p' := (ngB H)) (B' := A8) (m' := n8) (d' := c8) (e' := q) x_r
 replace z6 := z6.putL (b' := (ngB L)) (A' := A7) (n' := n7) (c' := c7) (p' := (ngB H)) (B' := A8) (m' := n8) (d' := c8) (e' := q) x_r
 replace z8 := z8.putL (b' := (ngB L)) (A' := A7) (n' := n7) (c' := c7) (p' := (ngB H)) (B' := A8) (m' := n8) (d' := c8) (e' := q) x_r
 replace hb := put_belowL (g := w.heap.size + 1 + 1) hb (by omega) (.bool (ngB L)) (.slice A7 n7 c7) (.bool (ngB H)) (.slice A8 n8 c8) (.int .i64 q)
 replace x_r := x_r.put (ngB L) A7 n7 c7 (ngB H) A8 n8 c8 q
 clear q_a0 f_a0 q_a1 f_a1 q_a2 f_a2 q_a3 f_a3 q_a4 f_a4 q_r0 f_r0 q_r1 f_r1 q_r2 f_r2 q_r3 f_r3 q_r4 f_r4
 generalize ((((v11.setCell ⟨w.heap.size + 1 + 1, 0, none⟩ (.bool (ngB L))).setCell ⟨w.heap.size + 1 + 1, 1, none⟩ (.slice A7 n7 c7)).setCell ⟨w.heap.size + 1 + 1, 2, none⟩ (.bool (ngB H))).setCell ⟨w.heap.size + 1 + 1, 3, none⟩ (.slice A8 n8 c8)).setCell ⟨w.heap.size + 1 + 1, 4, none⟩ (.int .i64 q) = v12 at *
 obtain ⟨q_a0, f_a0, q_a1, f_a1, q_a2, f_a2, q_a3, f_a3, q_a4, f_a4⟩ := x_a.al
 obtain ⟨q_r0, f_r0, q_r1, f_r1, q_r2, f_r2, q_r3, f_r3, q_r4, f_r4⟩ := x_r.al
 refine bodyPost_ret (v := .tuple #[.agg #[.bool (ngB L), .slice A7 n7 c7, .bool (ngB H), .slice A8 n8 c8, .int .i64 q], .int .i64 0]) (by simp [results, Tryz.results22, go_sem, q_r0, q_r1, q_r2, q_r3, q_r4]) rfl ?_
 exact ⟨_, _, _, _, _, _, rfl, z7, z8, hb⟩

set_option maxRecDepth 100000 in
set_option maxHeartbeats 2000000 in
theorem RMul_no {b b2 b3 b4 : Bool} {A A2 A3 A4 : Option Addr} {n c n2 c2 n3 c3 n4 c4 : Nat} {X Y U V q r : Int} {j j2 j3 j4 : Nat} {w : World} (h : Zr w b A n c X j) (h2 : Zr w b2 A2 n2 c2 Y j2) (h3 : Zr w b3 A3 n3 c3 U j3) (h4 : Zr w b4 A4 n4 c4 V j4) (hv : ¬ ((0 ≤ q ∧ q ≤ 2048 ∧ X ≤ Y) ∧ (0 ≤ r ∧ r ≤ 2048 ∧ U ≤ V) ∧ q = r)) (hj : j ≤ 8) (hj2 : j2 ≤ 8) (hj3 : j3 ≤ 8) (hj4 : j4 ≤ 8) :
  Calls Tryz.prog 22 #[.agg #[.bool b, .slice A n c, .bool b2, .slice A2 n2 c2, .int .i64 q], .agg #[.bool b3, .slice A3 n3 c3, .bool b4, .slice A4 n4 c4, .int .i64 r]] w (ErrL w 1) := by
 have HM := Lib.hid (mtB_no hv)
 clear hv
 go_enter Tryz.func22, Tryz.ntmps22
 go_wp2_with fail
 have x_a : Lx (w.alloc (.cells #[.bool b, .slice A n c, .bool b2, .slice A2 n2 c2, .int .i64 q] 26)) (w.heap.size) b A n c b2 A2 n2 c2 q := by have := Lx.new w b A n c b2 A2 n2 c2 q; simpa using this
 replace x_a := x_a.alloc (.cells #[.bool b3, .slice A3 n3 c3, .bool b4, .slice A4 n4 c4, .int .i64 r] 26)
 have x_d : Lx ((w.alloc (.cells #[.bool b, .slice A n c, .bool b2, .slice A2 n2 c2, .int .i64 q] 26)).alloc (.cells #[.bool b3, .slice A3 n3 c3, .bool b4, .slice A4 n4 c4, .int .i64 r] 26)) (w.heap.size + 1) b3 A3 n3 c3 b4 A4 n4 c4 r := by have := Lx.new (w.alloc (.cells #[.bool b, .slice A n c, .bool b2, .slice A2 n2 c2, .int .i64 q] 26)) b3 A3 n3 c3 b4 A4 n4 c4 r; simpa using this
 replace x_a := x_a.alloc (.cells #[.bool false, .slice none 0 0, .bool false, .slice none 0 0, .int .i64 0] 26)
 replace x_d := x_d.alloc (.cells #[.bool false, .slice none 0 0, .bool false, .slice none 0 0, .int .i64 0] 26)
 have x_r : Lx (((w.alloc (.cells #[.bool b, .slice A n c, .bool b2, .slice A2 n2 c2, .int .i64 q] 26)).alloc (.cells #[.bool b3, .slice A3 n3 c3, .bool b4, .slice A4 n4 c4, .int .i64 r] 26)).alloc (.cells #[.bool false, .slice none 0 0, .bool false, .slice none 0 0, .int .i64 0] 26)) (w.heap.size + 1 + 1) false none 0 0 false none 0 0 0 := by have := Lx.new ((w.alloc (.cells #[.bool b, .slice A n c, .bool b2, .slice A2 n2 c2, .int .i64 q] 26)).alloc (.cells #[.bool b3, .slice A3 n3 c3, .bool b4, .slice A4 n4 c4, .int .i64 r] 26)) false none 0 0 false none 0 0 0; simpa using this
 have hb : Below w.heap.size w (((w.alloc (.cells #[.bool b, .slice A n c, .bool b2, .slice A2 n2 c2, .int .i64 q] 26)).alloc (.cells #[.bool b3, .slice A3 n3 c3, .bool b4, .slice A4 n4 c4, .int .i64 r] 26)).alloc (.cells #[.bool false, .slice none 0 0, .bool false, .slice none 0 0, .int .i64 0] 26)) := (Below.alloc (Below.alloc (Below.alloc (Below.refl w.heap.size w) (by simp) (.cells #[.bool b, .slice A n c, .bool b2, .slice A2 n2 c2, .int .i64 q] 26)) (by simp) (.cells #[.bool b3, .slice A3 n3 c3, .bool b4, .slice A4 n4 c4, .int .i64 r] 26)) (by simp; omega) (.cells #[.bool false, .slice none 0 0, .bool false, .slice none 0 0, .int .i64 0] 26))
 generalize ((w.alloc (.cells #[.bool b, .slice A n c, .bool b2, .slice A2 n2 c2, .int .i64 q] 26)).alloc (.cells #[.bool b3, .slice A3 n3 c3, .bool b4, .slice A4 n4 c4, .int .i64 r] 26)).alloc (.cells #[.bool false, .slice none 0 0, .bool false, .slice none 0 0, .int .i64 0] 26) = v1 at *
 replace h := h.keep hb
 replace h2 := h2.keep hb
 replace h3 := h3.keep hb
 replace h4 := h4.keep hb
 obtain ⟨q_a0, f_a0, q_a1, f_a1, q_a2, f_a2, q_a3, f_a3, q_a4, f_a4⟩ := x_a.al
 obtain ⟨q_d0, f_d0, q_d1, f_d1, q_d2, f_d2, q_d3, f_d3, q_d4, f_d4⟩ := x_d.al
 obtain ⟨q_r0, f_r0, q_r1, f_r1, q_r2, f_r2, q_r3, f_r3, q_r4, f_r4⟩ := x_r.al
 go_wp2_with fail
 with_reducible refine (Rboth_any h h2 h3 h4 (by omega) (by omega) (by omega) (by omega)).mono ?_
 rintro e v2 ⟨rfl, hb1⟩
 replace x_a := x_a.keep hb1
 replace x_d := x_d.keep hb1
 replace x_r := x_r.keep hb1
 replace h := h.keep hb1
 replace h2 := h2.keep hb1
 replace h3 := h3.keep hb1
 replace h4 := h4.keep hb1
 replace hb := bthen hb hb1
 clear hb1
 clear q_a0 f_a0 q_a1 f_a1 q_a2 f_a2 q_a3 f_a3 q_a4 f_a4; obtain ⟨q_a0, f_a0, q_a1, f_a1, q_a2, f_a2, q_a3, f_a3, q_a4, f_a4⟩ := x_a.al
 clear q_d0 f_d0 q_d1 f_d1 q_d2 f_d2 q_d3 f_d3 q_d4 f_d4; obtain ⟨q_d0, f_d0, q_d1, f_d1, q_d2, f_d2, q_d3, f_d3, q_d4, f_d4⟩ := x_d.al
 clear q_r0 f_r0 q_r1 f_r1 q_r2 f_r2 q_r3 f_r3 q_r4 f_r4; obtain ⟨q_r0, f_r0, q_r1, f_r1, q_r2, f_r2, q_r3, f_r3, q_r4, f_r4⟩ := x_r.al
 rw [HM.out]
 go_wp2_with fail
 go_wp2
 replace x_a := x_a.asideL (b' := false) (A' := none) (n' := 0) (c' := 0) (p' := false) (B' := none) (m' := 0) (d' := 0) (e' := 0) (g := w.heap.size + 1 + 1) (by omega)
 replace x_d := x_d.asideL (b' := false) (A' := none) (n' := 0) (c' := 0) (p' := false) (B' := none) (m' := 0) (d' := 0) (e' := 0) (g := w.heap.size + 1 + 1) (by omega)
 replace h := h.putL (b' := false) (A' := none) (n' := 0) (c' := 0) (p' := false) (B' := none) (m' := 0) (d' := 0) (e' := 0) x_r
 replace h2 := h2.putL (b' := false) (A' := none) (n' := 0) (c' := 0) (p' := false) (B' := none) (m' := 0) (d' := 0) (e' := 0) x_r
 replace h3 := h3.putL (b' := false) (A' := none) (n' := 0) (c' := 0) (p' := false) (B' := none) (m' := 0) (d' := 0) (e' := 0) x_r
 replace h4 := h4.putL (b' := false) (A' := none) (n' := 0) (c' := 0) (p' := false) (B' := none) (m' := 0) (d' := 0) (e' := 0) x_r
 replace hb := put_belowL (g := w.heap.size + 1 + 1) hb (by omega) (.bool false) (.slice none 0 0) (.bool false) (.slice none 0 0) (.int .i64 0)
 replace x_r := x_r.put false none 0 0 false none 0 0 0
 clear q_a0 f_a0 q_a1 f_a1 q_a2 f_a2 q_a3 f_a3 q_a4 f_a4 q_d0 f_d0 q_d1 f_d1 q_d2 f_d2 q_d3 f_d3 q_d4 f_d4 q_r0 f_r0 q_r1 f_r1 q_r2 f_r2 q_r3 f_r3 q_r4 f_r4
 generalize ((((v2.setCell ⟨w.heap.size + 1 + 1, 0, none⟩ (.bool false)).setCell ⟨w.heap.size + 1 + 1, 1, none⟩ (.slice none 0 0)).setCell ⟨w.heap.size + 1 + 1, 2, none⟩ (.bool false)).setCell ⟨w.heap.size + 1 + 1, 3, none⟩ (.slice none 0 0)).setCell ⟨w.heap.size + 1 + 1, 4, none⟩ (.int .i64 0) = v3 at *
 obtain ⟨q_a0, f_a0, q_a1, f_a1, q_a2, f_a2, q_a3, f_a3, q_a4, f_a4⟩ := x_a.al
 obtain ⟨q_d0, f_d0, q_d1, f_d1, q_d2, f_d2, q_d3, f_d3, q_d4, f_d4⟩ := x_d.al
 obtain ⟨q_r0, f_r0, q_r1, f_r1, q_r2, f_r2, q_r3, f_r3, q_r4, f_r4⟩ := x_r.al
 refine bodyPost_ret (v := .tuple #[.agg #[.bool false, .slice none 0 0, .bool false, .slice none 0 0, .int .i64 0], .int .i64 1]) (by simp [results, Tryz.results22, go_sem, q_r0, q_r1, q_r2, q_r3, q_r4]) rfl ?_
 exact ⟨rfl, hb⟩

set_option maxRecDepth 100000 in
set_option maxHeartbeats 2000000 in
theorem RDiv_no {b b2 b3 b4 : Bool} {A A2 A3 A4 : Option Addr} {n c n2 c2 n3 c3 n4 c4 : Nat} {X Y U V q r : Int} {j j2 j3 j4 : Nat} {w : World} (h : Zr w b A n c X j) (h2 : Zr w b2 A2 n2 c2 Y j2) (h3 : Zr w b3 A3 n3 c3 U j3) (h4 : Zr w b4 A4 n4 c4 V j4) (hv : ¬ ((0 ≤ q ∧ q ≤ 2048 ∧ X ≤ Y) ∧ (0 ≤ r ∧ r ≤ 2048 ∧ U ≤ V) ∧ q = r)) (hj : j ≤ 8) (hj2 : j2 ≤ 8) (hj3 : j3 ≤ 8) (hj4 : j4 ≤ 8) :
  Calls Tryz.prog 24 #[.agg #[.bool b, .slice A n c, .bool b2, .slice A2 n2 c2, .int .i64 q], .agg #[.bool b3, .slice A3 n3 c3, .bool b4, .slice A4 n4 c4, .int .i64 r]] w (ErrL w 1) := by
 have HM := Lib.hid (mtB_no hv)
 clear hv
 go_enter Tryz.func24, Tryz.ntmps24
 go_wp2_with fail
 have x_a : Lx (w.alloc (.cells #[.bool b, .slice A n c, .bool b2, .slice A2 n2 c2, .int .i64 q] 26)) (w.heap.size) b A n c b2 A2 n2 c2 q := by have := Lx.new w b A n c b2 A2 n2 c2 q; simpa using this
 replace x_a := x_a.alloc (.cells #[.bool b3, .slice A3 n3 c3, .bool b4, .slice A4 n4 c4, .int .i64 r] 26)
 have x_d : Lx ((w.alloc (.cells #[.bool b, .slice A n c, .bool b2, .slice A2 n2 c2, .int .i64 q] 26)).alloc (.cells #[.bool b3, .slice A3 n3 c3, .bool b4, .slice A4 n4 c4, .int .i64 r] 26)) (w.heap.size + 1) b3 A3 n3 c3 b4 A4 n4 c4 r := by have := Lx.new (w.alloc (.cells #[.bool b, .slice A n c, .bool b2, .slice A2 n2 c2, .int .i64 q] 26)) b3 A3 n3 c3 b4 A4 n4 c4 r; simpa using this
 replace x_a := x_a.alloc (.cells #[.bool false, .slice none 0 0, .bool false, .slice none 0 0, .int .i64 0] 26)
 replace x_d := x_d.alloc (.cells #[.bool false, .slice none 0 0, .bool false, .slice none 0 0, .int .i64 0] 26)
 have x_r : Lx (((w.alloc (.cells #[.bool b, .slice A n c, .bool b2, .slice A2 n2 c2, .int .i64 q] 26)).alloc (.cells #[.bool b3, .slice A3 n3 c3, .bool b4, .slice A4 n4 c4, .int .i64 r] 26)).alloc (.cells #[.bool false, .slice none 0 0, .bool false, .slice none 0 0, .int .i64 0] 26)) (w.heap.size + 1 + 1) false none 0 0 false none 0 0 0 := by have := Lx.new ((w.alloc (.cells #[.bool b, .slice A n c, .bool b2, .slice A2 n2 c2, .int .i64 q] 26)).alloc (.cells #[.bool b3, .slice A3 n3 c3, .bool b4, .slice A4 n4 c4, .int .i64 r] 26)) false none 0 0 false none 0 0 0; simpa using this
 have hb : Below w.heap.size w (((w.alloc (.cells #[.bool b, .slice A n c, .bool b2, .slice A2 n2 c2, .int .i64 q] 26)).alloc (.cells #[.bool b3, .slice A3 n3 c3, .bool b4, .slice A4 n4 c4, .int .i64 r] 26)).alloc (.cells #[.bool false, .slice none 0 0, .bool false, .slice none 0 0, .int .i64 0] 26)) := (Below.alloc (Below.alloc (Below.alloc (Below.refl w.heap.size w) (by simp) (.cells #[.bool b, .slice A n c, .bool b2, .slice A2 n2 c2, .int .i64 q] 26)) (by simp) (.cells #[.bool b3, .slice A3 n3 c3, .bool b4, .slice A4 n4 c4, .int .i64 r] 26)) (by simp; omega) (.cells #[.bool false, .slice none 0 0, .bool false, .slice none 0 0, .int .i64 0] 26))
 generalize ((w.alloc (.cells #[.bool b, .slice A n c, .bool b2, .slice A2 n2 c2, .int .i64 q] 26)).alloc (.cells #[.bool b3, .slice A3 n3 c3, .bool b4, .slice A4 n4 c4, .int .i64 r] 26)).alloc (.cells #[.bool false, .slice none 0 0, .bool false, .slice none 0 0, .int .i64 0] 26) = v1 at *
 replace h := h.keep hb
 replace h2 := h2.keep hb
 replace h3 := h3.keep hb
 replace h4 := h4.keep hb
 obtain ⟨q_a0, f_a0, q_a1, f_a1, q_a2, f_a2, q_a3, f_a3, q_a4, f_a4⟩ := x_a.al
 obtain ⟨q_d0, f_d0, q_d1, f_d1, q_d2, f_d2, q_d3, f_d3, q_d4, f_d4⟩ := x_d.al
 obtain ⟨q_r0, f_r0, q_r1, f_r1, q_r2, f_r2, q_r3, f_r3, q_r4, f_r4⟩ := x_r.al
 go_wp2_with fail
 with_reducible refine (Rboth_any h h2 h3 h4 (by omega) (by omega) (by omega) (by omega)).mono ?_
 rintro e v2 ⟨rfl, hb1⟩
 replace x_a := x_a.keep hb1
 replace x_d := x_d.keep hb1
 replace x_r := x_r.keep hb1
 replace h := h.keep hb1
 replace h2 := h2.keep hb1
 replace h3 := h3.keep hb1
 replace h4 := h4.keep hb1
 replace hb := bthen hb hb1
 clear hb1
 clear q_a0 f_a0 q_a1 f_a1 q_a2 f_a2 q_a3 f_a3 q_a4 f_a4; obtain ⟨q_a0, f_a0, q_a1, f_a1, q_a2, f_a2, q_a3, f_a3, q_a4, f_a4⟩ := x_a.al
 clear q_d0 f_d0 q_d1 f_d1 q_d2 f_d2 q_d3 f_d3 q_d4 f_d4; obtain ⟨q_d0, f_d0, q_d1, f_d1, q_d2, f_d2, q_d3, f_d3, q_d4, f_d4⟩ := x_d.al
 clear q_r0 f_r0 q_r1 f_r1 q_r2 f_r2 q_r3 f_r3 q_r4 f_r4; obtain ⟨q_r0, f_r0, q_r1, f_r1, q_r2, f_r2, q_r3, f_r3, q_r4, f_r4⟩ := x_r.al
 rw [HM.out]
 go_wp2_with fail
 go_wp2
 replace x_a := x_a.asideL (b' := false) (A' := none) (n' := 0) (c' := 0) (p' := false) (B' := none) (m' := 0) (d' := 0) (e' := 0) (g := w.heap.size + 1 + 1) (by omega)
 replace x_d := x_d.asideL (b' := false) (A' := none) (n' := 0) (c' := 0) (p' := false) (B' := none) (m' := 0) (d' := 0) (e' := 0) (g := w.heap.size + 1 + 1) (by omega)
 replace h := h.putL (b' := false) (A' := none) (n' := 0) (c' := 0) (p' := false) (B' := none) (m' := 0) (d' := 0) (e' := 0) x_r
 replace h2 := h2.putL (b' := false) (A' := none) (n' := 0) (c' := 0) (p' := false) (B' := none) (m' := 0) (d' := 0) (e' := 0) x_r
 replace h3 := h3.putL (b' := false) (A' := none) (n' := 0) (c' := 0) (p' := false) (B' := none) (m' := 0) (d' := 0) (e' := 0) x_r
 replace h4 := h4.putL (b' := false) (A' := none) (n' := 0) (c' := 0) (p' := false) (B' := none) (m' := 0) (d' := 0) (e' := 0) x_r
 replace hb := put_belowL (g := w.heap.size + 1 + 1) hb (by omega) (.bool false) (.slice none 0 0) (.bool false) (.slice none 0 0) (.int .i64 0)
 replace x_r := x_r.put false none 0 0 false none 0 0 0
 clear q_a0 f_a0 q_a1 f_a1 q_a2 f_a2 q_a3 f_a3 q_a4 f_a4 q_d0 f_d0 q_d1 f_d1 q_d2 f_d2 q_d3 f_d3 q_d4 f_d4 q_r0 f_r0 q_r1 f_r1 q_r2 f_r2 q_r3 f_r3 q_r4 f_r4
 generalize ((((v2.setCell ⟨w.heap.size + 1 + 1, 0, none⟩ (.bool false)).setCell ⟨w.heap.size + 1 + 1, 1, none⟩ (.slice none 0 0)).setCell ⟨w.heap.size + 1 + 1, 2, none⟩ (.bool false)).setCell ⟨w.heap.size + 1 + 1, 3, none⟩ (.slice none 0 0)).setCell ⟨w.heap.size + 1 + 1, 4, none⟩ (.int .i64 0) = v3 at *
 obtain ⟨q_a0, f_a0, q_a1, f_a1, q_a2, f_a2, q_a3, f_a3, q_a4, f_a4⟩ := x_a.al
 obtain ⟨q_d0, f_d0, q_d1, f_d1, q_d2, f_d2, q_d3, f_d3, q_d4, f_d4⟩ := x_d.al
 obtain ⟨q_r0, f_r0, q_r1, f_r1, q_r2, f_r2, q_r3, f_r3, q_r4, f_r4⟩ := x_r.al
 refine bodyPost_ret (v := .tuple #[.agg #[.bool false, .slice none 0 0, .bool false, .slice none 0 0, .int .i64 0], .int .i64 1]) (by simp [results, Tryz.results24, go_sem, q_r0, q_r1, q_r2, q_r3, q_r4]) rfl ?_
 exact ⟨rfl, hb⟩

end Go.Proofs.YtiigacddjihokaaGreatDoor
