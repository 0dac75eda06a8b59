/-
 the document's answers for ball: Right.
-/
import Derived.Test.YtdonaominffpnaaGreatDoorLclos
import Derived.Test.YtdonaominffpnaaGreatDoorPe
namespace Go.Proofs.YtdonaominffpnaaGreatDoor
set_option maxRecDepth 100000
set_option maxHeartbeats 2000000
set_option linter.unusedVariables false
open Go.RowKit
theorem rB_cases (X Y q : Int) : (¬ X ≤ Y) ∨ (X ≤ Y ∧ q < 0) ∨ (X ≤ Y ∧ 0 ≤ q ∧ ¬ q ≤ 2048) ∨ (X ≤ Y ∧ 0 ≤ q ∧ q ≤ 2048) := by omega
theorem RRight_any {b b2 : Bool} {A A2 : Option Addr} {n c n2 c2 : Nat} {X Y q : Int} {j j2 : Nat} {w : World} (h : Zr w b A n c X j) (h2 : Zr w b2 A2 n2 c2 Y j2) (hj : j ≤ 10000) (hj2 : j2 ≤ 10000) :
  Calls Tryz.prog 33 #[.agg #[.bool b, .slice A n c, .bool b2, .slice A2 n2 c2, .int .i64 q]] w fun e w' => e = .returned (.bool (rB X Y q)) ∧ Below w.heap.size w w' := by
 have i1 := sgn_le (X := X) (Y := Y)
 obtain ⟨C, hC⟩ : ∃ C, sgnI (X - Y) = C := ⟨_, rfl⟩
 rw [hC] at i1
 have HC := Lib.hid hC; clear hC
 rcases rB_cases X Y q with a | ⟨a, o1⟩ | ⟨a, o1, o2⟩ | ⟨a, o1, o2⟩
 ·have HF := Lib.hid (rB_no (X := X) (Y := Y) (q := q) (by omega))
  have hd : ¬ C ≤ 0 := by omega
  clear i1 a
  go_enter Tryz.func33, Tryz.ntmps33
  go_wp2_with fail
  have x_a : Lx (w.alloc (.cells #[.bool b, .slice A n c, .bool b2, .slice A2 n2 c2, .int .i64 q] 26)) (w.heap.size) b A n c b2 A2 n2 c2 q := by have := Lx.new w b A n c b2 A2 n2 c2 q; simpa using this
  have hb : Below w.heap.size w (w.alloc (.cells #[.bool b, .slice A n c, .bool b2, .slice A2 n2 c2, .int .i64 q] 26)) := (Below.alloc (Below.refl w.heap.size w) (by simp) (.cells #[.bool b, .slice A n c, .bool b2, .slice A2 n2 c2, .int .i64 q] 26))
  generalize w.alloc (.cells #[.bool b, .slice A n c, .bool b2, .slice A2 n2 c2, .int .i64 q] 26) = v1 at *
  obtain ⟨h, h2⟩ := mv2 hb h h2
  have q_a := x_a.al
  go_wp2_with fail
  with_reducible refine (RCmpZ_any h h2 20000 (by omega) (by omega) (by omega)).mono ?_
  rintro e v2 ⟨rfl, hb1⟩
  obtain ⟨x_a, h, h2⟩ := mv3 hb1 x_a h h2
  replace hb := bthen hb hb1
  clear hb1
  replace q_a := x_a.al
  rw [HC.out]
  go_wp2
  go_ret
  exact ⟨qB_bool HF.out.symm, hb⟩
 ·have HF := Lib.hid (rB_no (X := X) (Y := Y) (q := q) (by omega))
  have hd : C ≤ 0 := by omega
  have o3 : ¬ 0 ≤ q := by omega
  clear i1 a
  go_enter Tryz.func33, Tryz.ntmps33
  go_wp2_with fail
  have x_a : Lx (w.alloc (.cells #[.bool b, .slice A n c, .bool b2, .slice A2 n2 c2, .int .i64 q] 26)) (w.heap.size) b A n c b2 A2 n2 c2 q := by have := Lx.new w b A n c b2 A2 n2 c2 q; simpa using this
  have hb : Below w.heap.size w (w.alloc (.cells #[.bool b, .slice A n c, .bool b2, .slice A2 n2 c2, .int .i64 q] 26)) := (Below.alloc (Below.refl w.heap.size w) (by simp) (.cells #[.bool b, .slice A n c, .bool b2, .slice A2 n2 c2, .int .i64 q] 26))
  generalize w.alloc (.cells #[.bool b, .slice A n c, .bool b2, .slice A2 n2 c2, .int .i64 q] 26) = v1 at *
  obtain ⟨h, h2⟩ := mv2 hb h h2
  have q_a := x_a.al
  go_wp2_with fail
  with_reducible refine (RCmpZ_any h h2 20000 (by omega) (by omega) (by omega)).mono ?_
  rintro e v2 ⟨rfl, hb1⟩
  obtain ⟨x_a, h, h2⟩ := mv3 hb1 x_a h h2
  replace hb := bthen hb hb1
  clear hb1
  replace q_a := x_a.al
  rw [HC.out]
  go_wp2
  go_ret
  exact ⟨qB_bool HF.out.symm, hb⟩
 ·have HF := Lib.hid (rB_no (X := X) (Y := Y) (q := q) (by omega))
  have hd : C ≤ 0 := by omega
  clear i1 a
  go_enter Tryz.func33, Tryz.ntmps33
  go_wp2_with fail
  have x_a : Lx (w.alloc (.cells #[.bool b, .slice A n c, .bool b2, .slice A2 n2 c2, .int .i64 q] 26)) (w.heap.size) b A n c b2 A2 n2 c2 q := by have := Lx.new w b A n c b2 A2 n2 c2 q; simpa using this
  have hb : Below w.heap.size w (w.alloc (.cells #[.bool b, .slice A n c, .bool b2, .slice A2 n2 c2, .int .i64 q] 26)) := (Below.alloc (Below.refl w.heap.size w) (by simp) (.cells #[.bool b, .slice A n c, .bool b2, .slice A2 n2 c2, .int .i64 q] 26))
  generalize w.alloc (.cells #[.bool b, .slice A n c, .bool b2, .slice A2 n2 c2, .int .i64 q] 26) = v1 at *
  obtain ⟨h, h2⟩ := mv2 hb h h2
  have q_a := x_a.al
  go_wp2_with fail
  with_reducible refine (RCmpZ_any h h2 20000 (by omega) (by omega) (by omega)).mono ?_
  rintro e v2 ⟨rfl, hb1⟩
  obtain ⟨x_a, h, h2⟩ := mv3 hb1 x_a h h2
  replace hb := bthen hb hb1
  clear hb1
  replace q_a := x_a.al
  rw [HC.out]
  go_wp2
  go_ret
  exact ⟨qB_bool ((dec_no (p := q ≤ 2048) (by omega)).trans HF.out.symm), hb⟩
 ·have HF := Lib.hid (rB_yes (X := X) (Y := Y) (q := q) (by omega))
  have hd : C ≤ 0 := by omega
  clear i1 a
  go_enter Tryz.func33, Tryz.ntmps33
  go_wp2_with fail
  have x_a : Lx (w.alloc (.cells #[.bool b, .slice A n c, .bool b2, .slice A2 n2 c2, .int .i64 q] 26)) (w.heap.size) b A n c b2 A2 n2 c2 q := by have := Lx.new w b A n c b2 A2 n2 c2 q; simpa using this
  have hb : Below w.heap.size w (w.alloc (.cells #[.bool b, .slice A n c, .bool b2, .slice A2 n2 c2, .int .i64 q] 26)) := (Below.alloc (Below.refl w.heap.size w) (by simp) (.cells #[.bool b, .slice A n c, .bool b2, .slice A2 n2 c2, .int .i64 q] 26))
  generalize w.alloc (.cells #[.bool b, .slice A n c, .bool b2, .slice A2 n2 c2, .int .i64 q] 26) = v1 at *
  obtain ⟨h, h2⟩ := mv2 hb h h2
  have q_a := x_a.al
  go_wp2_with fail
  with_reducible refine (RCmpZ_any h h2 20000 (by omega) (by omega) (by omega)).mono ?_
  rintro e v2 ⟨rfl, hb1⟩
  obtain ⟨x_a, h, h2⟩ := mv3 hb1 x_a h h2
  replace hb := bthen hb hb1
  clear hb1
  replace q_a := x_a.al
  rw [HC.out]
  go_wp2
  go_ret
  exact ⟨qB_bool HF.out.symm, hb⟩
end Go.Proofs.YtdonaominffpnaaGreatDoor
