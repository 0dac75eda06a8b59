/-
 the document's answers for ball: Add, Sub, Mul.
-/
import Derived.Test.YtiikmjnnlckiiaaGreatLleast
import Derived.Test.YtiikmjnnlckiiaaGreatLrdn
import Derived.Test.YtiikmjnnlckiiaaGreatLcomb
namespace Go.Proofs.YtiikmjnnlckiiaaGreat
open Go.RowKit
set_option linter.unusedVariables false

set_option maxRecDepth 100000 in
set_option maxHeartbeats 4000000 in
theorem Rboth_any {b b2 b3 b4 : Bool} {A A2 A3 A4 : Option Addr} {n c n2 c2 n3 c3 n4 c4 : Nat} {X Y U V q r : Int} {j j2 j3 j4 : Nat} {w : World} (h : Zr w b A n c X j) (h2 : Zr w b2 A2 n2 c2 Y j2) (h3 : Zr w b3 A3 n3 c3 U j3) (h4 : Zr w b4 A4 n4 c4 V j4) (hj : j ≤ 1000) (hj2 : j2 ≤ 1000) (hj3 : j3 ≤ 1000) (hj4 : j4 ≤ 1000) :
  Calls Tryz.prog 48 #[.agg #[.bool b, .slice A n c, .bool b2, .slice A2 n2 c2, .int .i64 q], .agg #[.bool b3, .slice A3 n3 c3, .bool b4, .slice A4 n4 c4, .int .i64 r]] w fun e w' => e = .returned (.bool (mtB X Y q U V r)) ∧ Below w.heap.size w w' := by
 rcases (show (¬ (0 ≤ q ∧ q ≤ 2048 ∧ X ≤ Y)) ∨ ((0 ≤ q ∧ q ≤ 2048 ∧ X ≤ Y) ∧ ¬ (0 ≤ r ∧ r ≤ 2048 ∧ U ≤ V)) ∨ ((0 ≤ q ∧ q ≤ 2048 ∧ X ≤ Y) ∧ (0 ≤ r ∧ r ≤ 2048 ∧ U ≤ V) ∧ q = r) ∨ ((0 ≤ q ∧ q ≤ 2048 ∧ X ≤ Y) ∧ (0 ≤ r ∧ r ≤ 2048 ∧ U ≤ V) ∧ ¬ q = r) by omega) with hr | ⟨hr, hs⟩ | ⟨hr, hs, hqr⟩ | ⟨hr, hs, hqr⟩
 ·have HF : Hid (mtB X Y q U V r = false) := Lib.hid (mtB_no (fun hc => hr hc.1))
  have HR := Lib.hid (rB_no hr)
  obtain ⟨T9, hT9⟩ : ∃ T, rB U V r = T := ⟨_, rfl⟩
  have HS := Lib.hid hT9; clear hT9 hr
  go_enter Tryz.func48, Tryz.ntmps48
  go_wp2_with fail
  have x_a : Lx (w.alloc (.cells #[.bool b, .slice A n c, .bool b2, .slice A2 n2 c2, .int .i64 q] 27)) (w.heap.size) b A n c b2 A2 n2 c2 q := by have := Lx.new w b A n c b2 A2 n2 c2 q; simpa using this
  replace x_a := x_a.alloc (.cells #[.bool b3, .slice A3 n3 c3, .bool b4, .slice A4 n4 c4, .int .i64 r] 27)
  have x_d : Lx ((w.alloc (.cells #[.bool b, .slice A n c, .bool b2, .slice A2 n2 c2, .int .i64 q] 27)).alloc (.cells #[.bool b3, .slice A3 n3 c3, .bool b4, .slice A4 n4 c4, .int .i64 r] 27)) (w.heap.size + 1) b3 A3 n3 c3 b4 A4 n4 c4 r := by have := Lx.new (w.alloc (.cells #[.bool b, .slice A n c, .bool b2, .slice A2 n2 c2, .int .i64 q] 27)) b3 A3 n3 c3 b4 A4 n4 c4 r; simpa using this
  have hb : Below w.heap.size w ((w.alloc (.cells #[.bool b, .slice A n c, .bool b2, .slice A2 n2 c2, .int .i64 q] 27)).alloc (.cells #[.bool b3, .slice A3 n3 c3, .bool b4, .slice A4 n4 c4, .int .i64 r] 27)) := (Below.alloc (Below.alloc (Below.refl w.heap.size w) (by simp) (.cells #[.bool b, .slice A n c, .bool b2, .slice A2 n2 c2, .int .i64 q] 27)) (by simp) (.cells #[.bool b3, .slice A3 n3 c3, .bool b4, .slice A4 n4 c4, .int .i64 r] 27))
  generalize (w.alloc (.cells #[.bool b, .slice A n c, .bool b2, .slice A2 n2 c2, .int .i64 q] 27)).alloc (.cells #[.bool b3, .slice A3 n3 c3, .bool b4, .slice A4 n4 c4, .int .i64 r] 27) = v1 at *
  obtain ⟨h, h2, h3, h4⟩ := mv4 hb h h2 h3 h4
  have q_a := x_a.al
  have q_d := x_d.al
  go_wp2_with fail
  with_reducible refine (RRight_any h h2 (by omega) (by omega)).mono ?_
  rintro e v2 ⟨rfl, hb1⟩
  obtain ⟨x_a, x_d, h, h2, h3, h4⟩ := mv6 hb1 x_a x_d h h2 h3 h4
  replace hb := bthen hb hb1
  clear hb1
  replace q_a := x_a.al
  replace q_d := x_d.al
  rw [HR.out]
  go_wp2_with fail
  with_reducible refine (RRight_any h3 h4 (by omega) (by omega)).mono ?_
  rintro e v3 ⟨rfl, hb1⟩
  obtain ⟨x_a, x_d, h, h2, h3, h4⟩ := mv6 hb1 x_a x_d h h2 h3 h4
  replace hb := bthen hb hb1
  clear hb1
  replace q_a := x_a.al
  replace q_d := x_d.al
  rw [HS.out]
  go_wp2
  go_ret
  exact ⟨qB_bool HF.out.symm, hb⟩
 ·have HF : Hid (mtB X Y q U V r = false) := Lib.hid (mtB_no (fun hc => hs hc.2.1))
  have HR := Lib.hid (rB_yes hr)
  have HS := Lib.hid (rB_no hs)
  clear hr hs
  go_enter Tryz.func48, Tryz.ntmps48
  go_wp2_with fail
  have x_a : Lx (w.alloc (.cells #[.bool b, .slice A n c, .bool b2, .slice A2 n2 c2, .int .i64 q] 27)) (w.heap.size) b A n c b2 A2 n2 c2 q := by have := Lx.new w b A n c b2 A2 n2 c2 q; simpa using this
  replace x_a := x_a.alloc (.cells #[.bool b3, .slice A3 n3 c3, .bool b4, .slice A4 n4 c4, .int .i64 r] 27)
  have x_d : Lx ((w.alloc (.cells #[.bool b, .slice A n c, .bool b2, .slice A2 n2 c2, .int .i64 q] 27)).alloc (.cells #[.bool b3, .slice A3 n3 c3, .bool b4, .slice A4 n4 c4, .int .i64 r] 27)) (w.heap.size + 1) b3 A3 n3 c3 b4 A4 n4 c4 r := by have := Lx.new (w.alloc (.cells #[.bool b, .slice A n c, .bool b2, .slice A2 n2 c2, .int .i64 q] 27)) b3 A3 n3 c3 b4 A4 n4 c4 r; simpa using this
  have hb : Below w.heap.size w ((w.alloc (.cells #[.bool b, .slice A n c, .bool b2, .slice A2 n2 c2, .int .i64 q] 27)).alloc (.cells #[.bool b3, .slice A3 n3 c3, .bool b4, .slice A4 n4 c4, .int .i64 r] 27)) := (Below.alloc (Below.alloc (Below.refl w.heap.size w) (by simp) (.cells #[.bool b, .slice A n c, .bool b2, .slice A2 n2 c2, .int .i64 q] 27)) (by simp) (.cells #[.bool b3, .slice A3 n3 c3, .bool b4, .slice A4 n4 c4, .int .i64 r] 27))
  generalize (w.alloc (.cells #[.bool b, .slice A n c, .bool b2, .slice A2 n2 c2, .int .i64 q] 27)).alloc (.cells #[.bool b3, .slice A3 n3 c3, .bool b4, .slice A4 n4 c4, .int .i64 r] 27) = v1 at *
  obtain ⟨h, h2, h3, h4⟩ := mv4 hb h h2 h3 h4
  have q_a := x_a.al
  have q_d := x_d.al
  go_wp2_with fail
  with_reducible refine (RRight_any h h2 (by omega) (by omega)).mono ?_
  rintro e v2 ⟨rfl, hb1⟩
  obtain ⟨x_a, x_d, h, h2, h3, h4⟩ := mv6 hb1 x_a x_d h h2 h3 h4
  replace hb := bthen hb hb1
  clear hb1
  replace q_a := x_a.al
  replace q_d := x_d.al
  rw [HR.out]
  go_wp2_with fail
  with_reducible refine (RRight_any h3 h4 (by omega) (by omega)).mono ?_
  rintro e v3 ⟨rfl, hb1⟩
  obtain ⟨x_a, x_d, h, h2, h3, h4⟩ := mv6 hb1 x_a x_d h h2 h3 h4
  replace hb := bthen hb hb1
  clear hb1
  replace q_a := x_a.al
  replace q_d := x_d.al
  rw [HS.out]
  go_wp2
  go_ret
  exact ⟨qB_bool HF.out.symm, hb⟩
 ·have HF : Hid (mtB X Y q U V r = true) := Lib.hid (mtB_yes ⟨hr, hs, hqr⟩)
  have HR := Lib.hid (rB_yes hr)
  have HS := Lib.hid (rB_yes hs)
  have HQ := Lib.hid hqr
  have hbe : (q == r) = true := by rw [hqr]; exact beq_self_eq_true r
  clear hr hs hqr
  go_enter Tryz.func48, Tryz.ntmps48
  go_wp2_with fail
  have x_a : Lx (w.alloc (.cells #[.bool b, .slice A n c, .bool b2, .slice A2 n2 c2, .int .i64 q] 27)) (w.heap.size) b A n c b2 A2 n2 c2 q := by have := Lx.new w b A n c b2 A2 n2 c2 q; simpa using this
  replace x_a := x_a.alloc (.cells #[.bool b3, .slice A3 n3 c3, .bool b4, .slice A4 n4 c4, .int .i64 r] 27)
  have x_d : Lx ((w.alloc (.cells #[.bool b, .slice A n c, .bool b2, .slice A2 n2 c2, .int .i64 q] 27)).alloc (.cells #[.bool b3, .slice A3 n3 c3, .bool b4, .slice A4 n4 c4, .int .i64 r] 27)) (w.heap.size + 1) b3 A3 n3 c3 b4 A4 n4 c4 r := by have := Lx.new (w.alloc (.cells #[.bool b, .slice A n c, .bool b2, .slice A2 n2 c2, .int .i64 q] 27)) b3 A3 n3 c3 b4 A4 n4 c4 r; simpa using this
  have hb : Below w.heap.size w ((w.alloc (.cells #[.bool b, .slice A n c, .bool b2, .slice A2 n2 c2, .int .i64 q] 27)).alloc (.cells #[.bool b3, .slice A3 n3 c3, .bool b4, .slice A4 n4 c4, .int .i64 r] 27)) := (Below.alloc (Below.alloc (Below.refl w.heap.size w) (by simp) (.cells #[.bool b, .slice A n c, .bool b2, .slice A2 n2 c2, .int .i64 q] 27)) (by simp) (.cells #[.bool b3, .slice A3 n3 c3, .bool b4, .slice A4 n4 c4, .int .i64 r] 27))
  generalize (w.alloc (.cells #[.bool b, .slice A n c, .bool b2, .slice A2 n2 c2, .int .i64 q] 27)).alloc (.cells #[.bool b3, .slice A3 n3 c3, .bool b4, .slice A4 n4 c4, .int .i64 r] 27) = v1 at *
  obtain ⟨h, h2, h3, h4⟩ := mv4 hb h h2 h3 h4
  have q_a := x_a.al
  have q_d := x_d.al
  go_wp2_with fail
  with_reducible refine (RRight_any h h2 (by omega) (by omega)).mono ?_
  rintro e v2 ⟨rfl, hb1⟩
  obtain ⟨x_a, x_d, h, h2, h3, h4⟩ := mv6 hb1 x_a x_d h h2 h3 h4
  replace hb := bthen hb hb1
  clear hb1
  replace q_a := x_a.al
  replace q_d := x_d.al
  rw [HR.out]
  go_wp2_with fail
  with_reducible refine (RRight_any h3 h4 (by omega) (by omega)).mono ?_
  rintro e v3 ⟨rfl, hb1⟩
  obtain ⟨x_a, x_d, h, h2, h3, h4⟩ := mv6 hb1 x_a x_d h h2 h3 h4
  replace hb := bthen hb hb1
  clear hb1
  replace q_a := x_a.al
  replace q_d := x_d.al
  rw [HS.out]
  go_wp2
  go_ret
  first | exact ⟨qB_bool HF.out.symm, hb⟩ | exact ⟨qB_bool ((by simp [HQ.out] : _ = true).trans HF.out.symm), hb⟩
 ·have HF : Hid (mtB X Y q U V r = false) := Lib.hid (mtB_no (fun hc => hqr hc.2.2))
  have HR := Lib.hid (rB_yes hr)
  have HS := Lib.hid (rB_yes hs)
  have HQ := Lib.hid hqr
  have hbe : (q == r) = false := by simpa using hqr
  clear hr hs hqr
  go_enter Tryz.func48, Tryz.ntmps48
  go_wp2_with fail
  have x_a : Lx (w.alloc (.cells #[.bool b, .slice A n c, .bool b2, .slice A2 n2 c2, .int .i64 q] 27)) (w.heap.size) b A n c b2 A2 n2 c2 q := by have := Lx.new w b A n c b2 A2 n2 c2 q; simpa using this
  replace x_a := x_a.alloc (.cells #[.bool b3, .slice A3 n3 c3, .bool b4, .slice A4 n4 c4, .int .i64 r] 27)
  have x_d : Lx ((w.alloc (.cells #[.bool b, .slice A n c, .bool b2, .slice A2 n2 c2, .int .i64 q] 27)).alloc (.cells #[.bool b3, .slice A3 n3 c3, .bool b4, .slice A4 n4 c4, .int .i64 r] 27)) (w.heap.size + 1) b3 A3 n3 c3 b4 A4 n4 c4 r := by have := Lx.new (w.alloc (.cells #[.bool b, .slice A n c, .bool b2, .slice A2 n2 c2, .int .i64 q] 27)) b3 A3 n3 c3 b4 A4 n4 c4 r; simpa using this
  have hb : Below w.heap.size w ((w.alloc (.cells #[.bool b, .slice A n c, .bool b2, .slice A2 n2 c2, .int .i64 q] 27)).alloc (.cells #[.bool b3, .slice A3 n3 c3, .bool b4, .slice A4 n4 c4, .int .i64 r] 27)) := (Below.alloc (Below.alloc (Below.refl w.heap.size w) (by simp) (.cells #[.bool b, .slice A n c, .bool b2, .slice A2 n2 c2, .int .i64 q] 27)) (by simp) (.cells #[.bool b3, .slice A3 n3 c3, .bool b4, .slice A4 n4 c4, .int .i64 r] 27))
  generalize (w.alloc (.cells #[.bool b, .slice A n c, .bool b2, .slice A2 n2 c2, .int .i64 q] 27)).alloc (.cells #[.bool b3, .slice A3 n3 c3, .bool b4, .slice A4 n4 c4, .int .i64 r] 27) = v1 at *
  obtain ⟨h, h2, h3, h4⟩ := mv4 hb h h2 h3 h4
  have q_a := x_a.al
  have q_d := x_d.al
  go_wp2_with fail
  with_reducible refine (RRight_any h h2 (by omega) (by omega)).mono ?_
  rintro e v2 ⟨rfl, hb1⟩
  obtain ⟨x_a, x_d, h, h2, h3, h4⟩ := mv6 hb1 x_a x_d h h2 h3 h4
  replace hb := bthen hb hb1
  clear hb1
  replace q_a := x_a.al
  replace q_d := x_d.al
  rw [HR.out]
  go_wp2_with fail
  with_reducible refine (RRight_any h3 h4 (by omega) (by omega)).mono ?_
  rintro e v3 ⟨rfl, hb1⟩
  obtain ⟨x_a, x_d, h, h2, h3, h4⟩ := mv6 hb1 x_a x_d h h2 h3 h4
  replace hb := bthen hb hb1
  clear hb1
  replace q_a := x_a.al
  replace q_d := x_d.al
  rw [HS.out]
  go_wp2
  go_ret
  first | exact ⟨qB_bool HF.out.symm, hb⟩ | exact ⟨qB_bool ((by simp [HQ.out] : _ = false).trans HF.out.symm), hb⟩

set_option maxRecDepth 100000 in
set_option maxHeartbeats 4000000 in
theorem RSub_yes {b b2 b3 b4 : Bool} {A A2 A3 A4 : Option Addr} {n c n2 c2 n3 c3 n4 c4 : Nat} {X Y U V q : Int} {j j2 j3 j4 : Nat} {w : World} (h : Zr w b A n c X j) (h2 : Zr w b2 A2 n2 c2 Y j2) (h3 : Zr w b3 A3 n3 c3 U j3) (h4 : Zr w b4 A4 n4 c4 V j4) (hv : 0 ≤ q ∧ q ≤ 2048 ∧ X ≤ Y) (hv2 : U ≤ V) (hj : j ≤ 60) (hj2 : j2 ≤ 60) (hj3 : j3 ≤ 60) (hj4 : j4 ≤ 60) :
  Calls Tryz.prog 20 #[.agg #[.bool b, .slice A n c, .bool b2, .slice A2 n2 c2, .int .i64 q], .agg #[.bool b3, .slice A3 n3 c3, .bool b4, .slice A4 n4 c4, .int .i64 q]] w (OuL w (X - V) (Y - U) q 61) := by
 have HM := Lib.hid (mtB_yes (r := q) ⟨hv, ⟨hv.1, hv.2.1, hv2⟩, rfl⟩)
 clear hv hv2
 go_enter Tryz.func20, Tryz.ntmps20
 go_wp2_with fail
 have x_a : Lx (w.alloc (.cells #[.bool b, .slice A n c, .bool b2, .slice A2 n2 c2, .int .i64 q] 27)) (w.heap.size) b A n c b2 A2 n2 c2 q := by have := Lx.new w b A n c b2 A2 n2 c2 q; simpa using this
 replace x_a := x_a.alloc (.cells #[.bool b3, .slice A3 n3 c3, .bool b4, .slice A4 n4 c4, .int .i64 q] 27)
 have x_d : Lx ((w.alloc (.cells #[.bool b, .slice A n c, .bool b2, .slice A2 n2 c2, .int .i64 q] 27)).alloc (.cells #[.bool b3, .slice A3 n3 c3, .bool b4, .slice A4 n4 c4, .int .i64 q] 27)) (w.heap.size + 1) b3 A3 n3 c3 b4 A4 n4 c4 q := by have := Lx.new (w.alloc (.cells #[.bool b, .slice A n c, .bool b2, .slice A2 n2 c2, .int .i64 q] 27)) b3 A3 n3 c3 b4 A4 n4 c4 q; simpa using this
 replace x_a := x_a.alloc (.cells #[.bool false, .slice none 0 0, .bool false, .slice none 0 0, .int .i64 0] 27)
 replace x_d := x_d.alloc (.cells #[.bool false, .slice none 0 0, .bool false, .slice none 0 0, .int .i64 0] 27)
 have x_r : Lx (((w.alloc (.cells #[.bool b, .slice A n c, .bool b2, .slice A2 n2 c2, .int .i64 q] 27)).alloc (.cells #[.bool b3, .slice A3 n3 c3, .bool b4, .slice A4 n4 c4, .int .i64 q] 27)).alloc (.cells #[.bool false, .slice none 0 0, .bool false, .slice none 0 0, .int .i64 0] 27)) (w.heap.size + 1 + 1) false none 0 0 false none 0 0 0 := by have := Lx.new ((w.alloc (.cells #[.bool b, .slice A n c, .bool b2, .slice A2 n2 c2, .int .i64 q] 27)).alloc (.cells #[.bool b3, .slice A3 n3 c3, .bool b4, .slice A4 n4 c4, .int .i64 q] 27)) false none 0 0 false none 0 0 0; simpa using this
 have hb : Below w.heap.size w (((w.alloc (.cells #[.bool b, .slice A n c, .bool b2, .slice A2 n2 c2, .int .i64 q] 27)).alloc (.cells #[.bool b3, .slice A3 n3 c3, .bool b4, .slice A4 n4 c4, .int .i64 q] 27)).alloc (.cells #[.bool false, .slice none 0 0, .bool false, .slice none 0 0, .int .i64 0] 27)) := (Below.alloc (Below.alloc (Below.alloc (Below.refl w.heap.size w) (by simp) (.cells #[.bool b, .slice A n c, .bool b2, .slice A2 n2 c2, .int .i64 q] 27)) (by simp) (.cells #[.bool b3, .slice A3 n3 c3, .bool b4, .slice A4 n4 c4, .int .i64 q] 27)) (by simp; omega) (.cells #[.bool false, .slice none 0 0, .bool false, .slice none 0 0, .int .i64 0] 27))
 generalize ((w.alloc (.cells #[.bool b, .slice A n c, .bool b2, .slice A2 n2 c2, .int .i64 q] 27)).alloc (.cells #[.bool b3, .slice A3 n3 c3, .bool b4, .slice A4 n4 c4, .int .i64 q] 27)).alloc (.cells #[.bool false, .slice none 0 0, .bool false, .slice none 0 0, .int .i64 0] 27) = v1 at *
 obtain ⟨h, h2, h3, h4⟩ := mv4 hb h h2 h3 h4
 have q_a := x_a.al
 have q_d := x_d.al
 have q_r := x_r.al
 go_wp2_with fail
 with_reducible refine (Rboth_any h h2 h3 h4 (by omega) (by omega) (by omega) (by omega)).mono ?_
 rintro e v2 ⟨rfl, hb1⟩
 obtain ⟨x_a, x_d, x_r, h, h2, h3, h4⟩ := mv7 hb1 x_a x_d x_r h h2 h3 h4
 replace hb := bthen hb hb1
 clear hb1
 replace q_a := x_a.al
 replace q_d := x_d.al
 replace q_r := x_r.al
 rw [HM.out]
 go_wp2_with fail
 go_region_held3 (fun w' => w'.cell? ⟨w.heap.size, 0, none⟩ = some (.bool b) ∧ w'.cell? ⟨w.heap.size, 1, none⟩ = some (.slice A n c) ∧ w'.cell? ⟨w.heap.size, 2, none⟩ = some (.bool b2) ∧ w'.cell? ⟨w.heap.size, 3, none⟩ = some (.slice A2 n2 c2) ∧ w'.cell? ⟨w.heap.size, 4, none⟩ = some (.int .i64 q) ∧ w'.cell? ⟨w.heap.size + 1, 0, none⟩ = some (.bool b3) ∧ w'.cell? ⟨w.heap.size + 1, 1, none⟩ = some (.slice A3 n3 c3) ∧ w'.cell? ⟨w.heap.size + 1, 2, none⟩ = some (.bool b4) ∧ w'.cell? ⟨w.heap.size + 1, 3, none⟩ = some (.slice A4 n4 c4) ∧ w'.cell? ⟨w.heap.size + 1, 4, none⟩ = some (.int .i64 q))
  (first | (with_reducible exact ⟨x_a.c0, x_a.c1, x_a.c2, x_a.c3, x_a.c4, x_d.c0, x_d.c1, x_d.c2, x_d.c3, x_d.c4⟩) | (with_reducible exact ⟨(x_a.aside (by omega)).c0, (x_a.aside (by omega)).c1, (x_a.aside (by omega)).c2, (x_a.aside (by omega)).c3, (x_a.aside (by omega)).c4, (x_d.aside (by omega)).c0, (x_d.aside (by omega)).c1, (x_d.aside (by omega)).c2, (x_d.aside (by omega)).c3, (x_d.aside (by omega)).c4⟩) | (with_reducible exact ⟨((x_a.aside (by omega)).aside (by omega)).c0, ((x_a.aside (by omega)).aside (by omega)).c1, ((x_a.aside (by omega)).aside (by omega)).c2, ((x_a.aside (by omega)).aside (by omega)).c3, ((x_a.aside (by omega)).aside (by omega)).c4, ((x_d.aside (by omega)).aside (by omega)).c0, ((x_d.aside (by omega)).aside (by omega)).c1, ((x_d.aside (by omega)).aside (by omega)).c2, ((x_d.aside (by omega)).aside (by omega)).c3, ((x_d.aside (by omega)).aside (by omega)).c4⟩) | (with_reducible exact ⟨(x_a.asideD (by omega)).c0, (x_a.asideD (by omega)).c1, (x_a.asideD (by omega)).c2, (x_a.asideD (by omega)).c3, (x_a.asideD (by omega)).c4, (x_d.asideD (by omega)).c0, (x_d.asideD (by omega)).c1, (x_d.asideD (by omega)).c2, (x_d.asideD (by omega)).c3, (x_d.asideD (by omega)).c4⟩) | (with_reducible exact ⟨((x_a.asideD (by omega)).asideD (by omega)).c0, ((x_a.asideD (by omega)).asideD (by omega)).c1, ((x_a.asideD (by omega)).asideD (by omega)).c2, ((x_a.asideD (by omega)).asideD (by omega)).c3, ((x_a.asideD (by omega)).asideD (by omega)).c4, ((x_d.asideD (by omega)).asideD (by omega)).c0, ((x_d.asideD (by omega)).asideD (by omega)).c1, ((x_d.asideD (by omega)).asideD (by omega)).c2, ((x_d.asideD (by omega)).asideD (by omega)).c3, ((x_d.asideD (by omega)).asideD (by omega)).c4⟩) | (with_reducible exact ⟨(x_a.asideL (by omega)).c0, (x_a.asideL (by omega)).c1, (x_a.asideL (by omega)).c2, (x_a.asideL (by omega)).c3, (x_a.asideL (by omega)).c4, (x_d.asideL (by omega)).c0, (x_d.asideL (by omega)).c1, (x_d.asideL (by omega)).c2, (x_d.asideL (by omega)).c3, (x_d.asideL (by omega)).c4⟩) | (with_reducible exact ⟨((x_a.asideL (by omega)).asideL (by omega)).c0, ((x_a.asideL (by omega)).asideL (by omega)).c1, ((x_a.asideL (by omega)).asideL (by omega)).c2, ((x_a.asideL (by omega)).asideL (by omega)).c3, ((x_a.asideL (by omega)).asideL (by omega)).c4, ((x_d.asideL (by omega)).asideL (by omega)).c0, ((x_d.asideL (by omega)).asideL (by omega)).c1, ((x_d.asideL (by omega)).asideL (by omega)).c2, ((x_d.asideL (by omega)).asideL (by omega)).c3, ((x_d.asideL (by omega)).asideL (by omega)).c4⟩) | go_keep)
  (first | (go_at_call 49; (with_reducible refine (RSubZ_any h.drw h4.drw 61 (by omega) (by omega) (by omega)).mono ?_); rintro e v3 ⟨A5, n5, c5, rfl, z5, hb1⟩; replace hb1 := undrew hb1; obtain ⟨x_a, x_d, x_r, h, h2, h3, h4⟩ := mv7 hb1 x_a x_d x_r h h2 h3 h4; replace hb := bthen hb hb1; clear hb1; replace q_a := x_a.al; replace q_d := x_d.al; replace q_r := x_r.al) | (go_at_call 49; (with_reducible refine (RSubZ_any h2 h3 61 (by omega) (by omega) (by omega)).mono ?_); rintro e v4 ⟨A6, n6, c6, rfl, z6, hb1⟩; obtain ⟨x_a, x_d, x_r, h, h2, h3, h4, z5⟩ := mv8 hb1 x_a x_d x_r h h2 h3 h4 z5; replace hb := bthen hb hb1; clear hb1; replace q_a := x_a.al; replace q_d := x_d.al; replace q_r := x_r.al))
 go_wp2
 replace x_a := x_a.asideL (b' := (ngB (X - V))) (A' := A5) (n' := n5) (c' := c5) (p' := (ngB (Y - U))) (B' := A6) (m' := n6) (d' := c6) (e' := q) (g := w.heap.size + 1 + 1) (by omega)
 replace x_d := x_d.asideL (b' := (ngB (X - V))) (A' := A5) (n' := n5) (c' := c5) (p' := (ngB (Y - U))) (B' := A6) (m' := n6) (d' := c6) (e' := q) (g := w.heap.size + 1 + 1) (by omega)
 replace h := h.putL (b' := (ngB (X - V))) (A' := A5) (n' := n5) (c' := c5) (p' := (ngB (Y - U))) (B' := A6) (m' := n6) (d' := c6) (e' := q) x_r
 replace h2 := h2.putL (b' := (ngB (X - V))) (A' := A5) (n' := n5) (c' := c5) (p' := (ngB (Y - U))) (B' := A6) (m' := n6) (d' := c6) (e' := q) x_r
 replace h3 := h3.putL (b' := (ngB (X - V))) (A' := A5) (n' := n5) (c' := c5) (p' := (ngB (Y - U))) (B' := A6) (m' := n6) (d' := c6) (e' := q) x_r
 replace h4 := h4.putL (b' := (ngB (X - V))) (A' := A5) (n' := n5) (c' := c5) (p' := (ngB (Y - U))) (B' := A6) (m' := n6) (d' := c6) (e' := q) x_r
 replace z5 := z5.putL (b' := (ngB (X - V))) (A' := A5) (n' := n5) (c' := c5) (p' := (ngB (Y - U))) (B' := A6) (m' := n6) (d' := c6) (e' := q) x_r
 replace z6 := z6.putL (b' := (ngB (X - V))) (A' := A5) (n' := n5) (c' := c5) (p' := (ngB (Y - U))) (B' := A6) (m' := n6) (d' := c6) (e' := q) x_r
 replace hb := put_belowL (g := w.heap.size + 1 + 1) hb (by omega) (.bool (ngB (X - V))) (.slice A5 n5 c5) (.bool (ngB (Y - U))) (.slice A6 n6 c6) (.int .i64 q)
 replace x_r := x_r.put (ngB (X - V)) A5 n5 c5 (ngB (Y - U)) A6 n6 c6 q
 clear q_a q_d q_r
 generalize ((((v4.setCell ⟨w.heap.size + 1 + 1, 0, none⟩ (.bool (ngB (X - V)))).setCell ⟨w.heap.size + 1 + 1, 1, none⟩ (.slice A5 n5 c5)).setCell ⟨w.heap.size + 1 + 1, 2, none⟩ (.bool (ngB (Y - U)))).setCell ⟨w.heap.size + 1 + 1, 3, none⟩ (.slice A6 n6 c6)).setCell ⟨w.heap.size + 1 + 1, 4, none⟩ (.int .i64 q) = v5 at *
 have q_a := x_a.al
 have q_d := x_d.al
 have q_r := x_r.al
 refine bodyPost_ret (v := .tuple #[.agg #[.bool (ngB (X - V)), .slice A5 n5 c5, .bool (ngB (Y - U)), .slice A6 n6 c6, .int .i64 q], .int .i64 0]) (by simp [results, Tryz.results20, go_sem, q_r]) rfl ?_
 exact ⟨_, _, _, _, _, _, rfl, z5, z6, hb⟩

end Go.Proofs.YtiikmjnnlckiiaaGreat
