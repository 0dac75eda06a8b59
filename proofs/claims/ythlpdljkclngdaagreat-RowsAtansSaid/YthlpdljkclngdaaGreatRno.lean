/-
  the document's answers for rows: errors.
-/
import Derived.Test.YthlpdljkclngdaaGreatRexp
namespace Go.Proofs.YthlpdljkclngdaaGreat
open Go.RowKit
set_option linter.unusedVariables false

set_option maxRecDepth 100000 in
set_option maxHeartbeats 4000000 in
theorem RExp_no {b : Bool} {A : Option Addr} {n c : Nat} {X : Int} {j : Nat} {w : World} (h : Zr w b A n c X j) (q m : Int) (k : Nat) (hv : mayB X q m 1 0 = false) (hj : j ≤ 20) :
    Calls Tryz.prog 10 #[.agg #[.bool b, .slice A n c], .int .i64 q, .int .i64 m] w (Ou2 w 0 0 1 k) := by
  have HMY := Lib.hid hv; clear hv
  go_enter Tryz.func10, Tryz.ntmps10
  go_wp2_with fail
  have x_a : Bx (w.alloc (.cells #[.bool b, .slice A n c] 24)) (w.heap.size) b A n c := by have := Bx.new w b A n c; simpa using this
  replace x_a := x_a.alloc (.cells #[.bool false, .slice none 0 0] 24)
  have x_r : Bx ((w.alloc (.cells #[.bool b, .slice A n c] 24)).alloc (.cells #[.bool false, .slice none 0 0] 24)) (w.heap.size + 1) false none 0 0 := by have := Bx.new (w.alloc (.cells #[.bool b, .slice A n c] 24)) false none 0 0; simpa using this
  replace x_a := x_a.alloc (.cells #[.bool false, .slice none 0 0] 24)
  replace x_r := x_r.alloc (.cells #[.bool false, .slice none 0 0] 24)
  have x_p : Bx (((w.alloc (.cells #[.bool b, .slice A n c] 24)).alloc (.cells #[.bool false, .slice none 0 0] 24)).alloc (.cells #[.bool false, .slice none 0 0] 24)) (w.heap.size + 1 + 1) false none 0 0 := by have := Bx.new ((w.alloc (.cells #[.bool b, .slice A n c] 24)).alloc (.cells #[.bool false, .slice none 0 0] 24)) false none 0 0; simpa using this
  have hb : Below w.heap.size w (((w.alloc (.cells #[.bool b, .slice A n c] 24)).alloc (.cells #[.bool false, .slice none 0 0] 24)).alloc (.cells #[.bool false, .slice none 0 0] 24)) := (Below.alloc (Below.alloc (Below.alloc (Below.refl w.heap.size w) (by simp) (.cells #[.bool b, .slice A n c] 24)) (by simp) (.cells #[.bool false, .slice none 0 0] 24)) (by simp; omega) (.cells #[.bool false, .slice none 0 0] 24))
  generalize ((w.alloc (.cells #[.bool b, .slice A n c] 24)).alloc (.cells #[.bool false, .slice none 0 0] 24)).alloc (.cells #[.bool false, .slice none 0 0] 24) = v1 at *
  replace h := h.keep hb
  obtain ⟨q_a0, f_a0, q_a1, f_a1⟩ := x_a.al
  obtain ⟨q_r0, f_r0, q_r1, f_r1⟩ := x_r.al
  obtain ⟨q_p0, f_p0, q_p1, f_p1⟩ := x_p.al
  go_wp2_with fail
  with_reducible refine (Rmay_any h q m 1 0 (by omega) (by omega)).mono ?_
  rintro e v2 ⟨rfl, hb1⟩
  replace x_a := x_a.keep hb1
  replace x_r := x_r.keep hb1
  replace x_p := x_p.keep hb1
  replace h := h.keep hb1
  replace hb := bthen hb hb1
  clear hb1
  clear q_a0 f_a0 q_a1 f_a1; obtain ⟨q_a0, f_a0, q_a1, f_a1⟩ := x_a.al
  clear q_r0 f_r0 q_r1 f_r1; obtain ⟨q_r0, f_r0, q_r1, f_r1⟩ := x_r.al
  clear q_p0 f_p0 q_p1 f_p1; obtain ⟨q_p0, f_p0, q_p1, f_p1⟩ := x_p.al
  rw [HMY.out]
  go_wp2_with fail
  replace x_a := x_a.aside (b' := false) (A' := none) (n' := 0) (c' := 0) (g := w.heap.size + 1) (by omega)
  replace x_p := x_p.aside (b' := false) (A' := none) (n' := 0) (c' := 0) (g := w.heap.size + 1) (by omega)
  replace h := h.put (b' := false) (A' := none) (n' := 0) (c' := 0) x_r
  replace hb := put_below (g := w.heap.size + 1) hb (by omega) (.bool false) (.slice none 0 0)
  replace x_r := x_r.put false none 0 0
  clear q_a0 f_a0 q_a1 f_a1 q_r0 f_r0 q_r1 f_r1 q_p0 f_p0 q_p1 f_p1
  generalize (v2.setCell ⟨w.heap.size + 1, 0, none⟩ (.bool false)).setCell ⟨w.heap.size + 1, 1, none⟩ (.slice none 0 0) = v3 at *
  obtain ⟨q_a0, f_a0, q_a1, f_a1⟩ := x_a.al
  obtain ⟨q_r0, f_r0, q_r1, f_r1⟩ := x_r.al
  obtain ⟨q_p0, f_p0, q_p1, f_p1⟩ := x_p.al
  replace x_a := x_a.aside (b' := false) (A' := none) (n' := 0) (c' := 0) (g := w.heap.size + 1 + 1) (by omega)
  replace x_r := x_r.aside (b' := false) (A' := none) (n' := 0) (c' := 0) (g := w.heap.size + 1 + 1) (by omega)
  replace h := h.put (b' := false) (A' := none) (n' := 0) (c' := 0) x_p
  replace hb := put_below (g := w.heap.size + 1 + 1) hb (by omega) (.bool false) (.slice none 0 0)
  replace x_p := x_p.put false none 0 0
  clear q_a0 f_a0 q_a1 f_a1 q_r0 f_r0 q_r1 f_r1 q_p0 f_p0 q_p1 f_p1
  generalize (v3.setCell ⟨w.heap.size + 1 + 1, 0, none⟩ (.bool false)).setCell ⟨w.heap.size + 1 + 1, 1, none⟩ (.slice none 0 0) = v4 at *
  obtain ⟨q_a0, f_a0, q_a1, f_a1⟩ := x_a.al
  obtain ⟨q_r0, f_r0, q_r1, f_r1⟩ := x_r.al
  obtain ⟨q_p0, f_p0, q_p1, f_p1⟩ := x_p.al
  skip
  refine bodyPost_ret (v := .tuple #[.agg #[.bool false, .slice none 0 0], .agg #[.bool false, .slice none 0 0], .int .i64 1]) (by simp [results, Tryz.results10, go_sem, q_r0, q_r1, q_p0, q_p1]) rfl ?_
  exact ⟨_, _, _, _, _, _, rfl, Zn.nl _ _, Zn.nl _ _, hb⟩

set_option maxRecDepth 100000 in
set_option maxHeartbeats 4000000 in
theorem RAtanh_no {b : Bool} {A : Option Addr} {n c : Nat} {X : Int} {j : Nat} {w : World} (h : Zr w b A n c X j) (q m : Int) (k : Nat) (hv : mayB X q m 1 1 = false) (hj : j ≤ 20) :
    Calls Tryz.prog 13 #[.agg #[.bool b, .slice A n c], .int .i64 q, .int .i64 m] w (Ou2 w 0 0 1 k) := by
  have HMY := Lib.hid hv; clear hv
  go_enter Tryz.func13, Tryz.ntmps13
  go_wp2_with fail
  have x_a : Bx (w.alloc (.cells #[.bool b, .slice A n c] 24)) (w.heap.size) b A n c := by have := Bx.new w b A n c; simpa using this
  replace x_a := x_a.alloc (.cells #[.bool false, .slice none 0 0] 24)
  have x_r : Bx ((w.alloc (.cells #[.bool b, .slice A n c] 24)).alloc (.cells #[.bool false, .slice none 0 0] 24)) (w.heap.size + 1) false none 0 0 := by have := Bx.new (w.alloc (.cells #[.bool b, .slice A n c] 24)) false none 0 0; simpa using this
  replace x_a := x_a.alloc (.cells #[.bool false, .slice none 0 0] 24)
  replace x_r := x_r.alloc (.cells #[.bool false, .slice none 0 0] 24)
  have x_p : Bx (((w.alloc (.cells #[.bool b, .slice A n c] 24)).alloc (.cells #[.bool false, .slice none 0 0] 24)).alloc (.cells #[.bool false, .slice none 0 0] 24)) (w.heap.size + 1 + 1) false none 0 0 := by have := Bx.new ((w.alloc (.cells #[.bool b, .slice A n c] 24)).alloc (.cells #[.bool false, .slice none 0 0] 24)) false none 0 0; simpa using this
  have hb : Below w.heap.size w (((w.alloc (.cells #[.bool b, .slice A n c] 24)).alloc (.cells #[.bool false, .slice none 0 0] 24)).alloc (.cells #[.bool false, .slice none 0 0] 24)) := (Below.alloc (Below.alloc (Below.alloc (Below.refl w.heap.size w) (by simp) (.cells #[.bool b, .slice A n c] 24)) (by simp) (.cells #[.bool false, .slice none 0 0] 24)) (by simp; omega) (.cells #[.bool false, .slice none 0 0] 24))
  generalize ((w.alloc (.cells #[.bool b, .slice A n c] 24)).alloc (.cells #[.bool false, .slice none 0 0] 24)).alloc (.cells #[.bool false, .slice none 0 0] 24) = v1 at *
  replace h := h.keep hb
  obtain ⟨q_a0, f_a0, q_a1, f_a1⟩ := x_a.al
  obtain ⟨q_r0, f_r0, q_r1, f_r1⟩ := x_r.al
  obtain ⟨q_p0, f_p0, q_p1, f_p1⟩ := x_p.al
  go_wp2_with fail
  with_reducible refine (Rmay_any h q m 1 1 (by omega) (by omega)).mono ?_
  rintro e v2 ⟨rfl, hb1⟩
  replace x_a := x_a.keep hb1
  replace x_r := x_r.keep hb1
  replace x_p := x_p.keep hb1
  replace h := h.keep hb1
  replace hb := bthen hb hb1
  clear hb1
  clear q_a0 f_a0 q_a1 f_a1; obtain ⟨q_a0, f_a0, q_a1, f_a1⟩ := x_a.al
  clear q_r0 f_r0 q_r1 f_r1; obtain ⟨q_r0, f_r0, q_r1, f_r1⟩ := x_r.al
  clear q_p0 f_p0 q_p1 f_p1; obtain ⟨q_p0, f_p0, q_p1, f_p1⟩ := x_p.al
  rw [HMY.out]
  go_wp2_with fail
  replace x_a := x_a.aside (b' := false) (A' := none) (n' := 0) (c' := 0) (g := w.heap.size + 1) (by omega)
  replace x_p := x_p.aside (b' := false) (A' := none) (n' := 0) (c' := 0) (g := w.heap.size + 1) (by omega)
  replace h := h.put (b' := false) (A' := none) (n' := 0) (c' := 0) x_r
  replace hb := put_below (g := w.heap.size + 1) hb (by omega) (.bool false) (.slice none 0 0)
  replace x_r := x_r.put false none 0 0
  clear q_a0 f_a0 q_a1 f_a1 q_r0 f_r0 q_r1 f_r1 q_p0 f_p0 q_p1 f_p1
  generalize (v2.setCell ⟨w.heap.size + 1, 0, none⟩ (.bool false)).setCell ⟨w.heap.size + 1, 1, none⟩ (.slice none 0 0) = v3 at *
  obtain ⟨q_a0, f_a0, q_a1, f_a1⟩ := x_a.al
  obtain ⟨q_r0, f_r0, q_r1, f_r1⟩ := x_r.al
  obtain ⟨q_p0, f_p0, q_p1, f_p1⟩ := x_p.al
  replace x_a := x_a.aside (b' := false) (A' := none) (n' := 0) (c' := 0) (g := w.heap.size + 1 + 1) (by omega)
  replace x_r := x_r.aside (b' := false) (A' := none) (n' := 0) (c' := 0) (g := w.heap.size + 1 + 1) (by omega)
  replace h := h.put (b' := false) (A' := none) (n' := 0) (c' := 0) x_p
  replace hb := put_below (g := w.heap.size + 1 + 1) hb (by omega) (.bool false) (.slice none 0 0)
  replace x_p := x_p.put false none 0 0
  clear q_a0 f_a0 q_a1 f_a1 q_r0 f_r0 q_r1 f_r1 q_p0 f_p0 q_p1 f_p1
  generalize (v3.setCell ⟨w.heap.size + 1 + 1, 0, none⟩ (.bool false)).setCell ⟨w.heap.size + 1 + 1, 1, none⟩ (.slice none 0 0) = v4 at *
  obtain ⟨q_a0, f_a0, q_a1, f_a1⟩ := x_a.al
  obtain ⟨q_r0, f_r0, q_r1, f_r1⟩ := x_r.al
  obtain ⟨q_p0, f_p0, q_p1, f_p1⟩ := x_p.al
  skip
  refine bodyPost_ret (v := .tuple #[.agg #[.bool false, .slice none 0 0], .agg #[.bool false, .slice none 0 0], .int .i64 1]) (by simp [results, Tryz.results13, go_sem, q_r0, q_r1, q_p0, q_p1]) rfl ?_
  exact ⟨_, _, _, _, _, _, rfl, Zn.nl _ _, Zn.nl _ _, hb⟩

set_option maxRecDepth 100000 in
set_option maxHeartbeats 4000000 in
theorem RAtan_no {b : Bool} {A : Option Addr} {n c : Nat} {X : Int} {j : Nat} {w : World} (h : Zr w b A n c X j) (q m : Int) (k : Nat) (hv : mayB X q m 1 1 = false) (hj : j ≤ 20) :
    Calls Tryz.prog 15 #[.agg #[.bool b, .slice A n c], .int .i64 q, .int .i64 m] w (Ou2 w 0 0 1 k) := by
  have HMY := Lib.hid hv; clear hv
  go_enter Tryz.func15, Tryz.ntmps15
  go_wp2_with fail
  have x_a : Bx (w.alloc (.cells #[.bool b, .slice A n c] 24)) (w.heap.size) b A n c := by have := Bx.new w b A n c; simpa using this
  replace x_a := x_a.alloc (.cells #[.bool false, .slice none 0 0] 24)
  have x_r : Bx ((w.alloc (.cells #[.bool b, .slice A n c] 24)).alloc (.cells #[.bool false, .slice none 0 0] 24)) (w.heap.size + 1) false none 0 0 := by have := Bx.new (w.alloc (.cells #[.bool b, .slice A n c] 24)) false none 0 0; simpa using this
  replace x_a := x_a.alloc (.cells #[.bool false, .slice none 0 0] 24)
  replace x_r := x_r.alloc (.cells #[.bool false, .slice none 0 0] 24)
  have x_p : Bx (((w.alloc (.cells #[.bool b, .slice A n c] 24)).alloc (.cells #[.bool false, .slice none 0 0] 24)).alloc (.cells #[.bool false, .slice none 0 0] 24)) (w.heap.size + 1 + 1) false none 0 0 := by have := Bx.new ((w.alloc (.cells #[.bool b, .slice A n c] 24)).alloc (.cells #[.bool false, .slice none 0 0] 24)) false none 0 0; simpa using this
  have hb : Below w.heap.size w (((w.alloc (.cells #[.bool b, .slice A n c] 24)).alloc (.cells #[.bool false, .slice none 0 0] 24)).alloc (.cells #[.bool false, .slice none 0 0] 24)) := (Below.alloc (Below.alloc (Below.alloc (Below.refl w.heap.size w) (by simp) (.cells #[.bool b, .slice A n c] 24)) (by simp) (.cells #[.bool false, .slice none 0 0] 24)) (by simp; omega) (.cells #[.bool false, .slice none 0 0] 24))
  generalize ((w.alloc (.cells #[.bool b, .slice A n c] 24)).alloc (.cells #[.bool false, .slice none 0 0] 24)).alloc (.cells #[.bool false, .slice none 0 0] 24) = v1 at *
  replace h := h.keep hb
  obtain ⟨q_a0, f_a0, q_a1, f_a1⟩ := x_a.al
  obtain ⟨q_r0, f_r0, q_r1, f_r1⟩ := x_r.al
  obtain ⟨q_p0, f_p0, q_p1, f_p1⟩ := x_p.al
  go_wp2_with fail
  with_reducible refine (Rmay_any h q m 1 1 (by omega) (by omega)).mono ?_
  rintro e v2 ⟨rfl, hb1⟩
  replace x_a := x_a.keep hb1
  replace x_r := x_r.keep hb1
  replace x_p := x_p.keep hb1
  replace h := h.keep hb1
  replace hb := bthen hb hb1
  clear hb1
  clear q_a0 f_a0 q_a1 f_a1; obtain ⟨q_a0, f_a0, q_a1, f_a1⟩ := x_a.al
  clear q_r0 f_r0 q_r1 f_r1; obtain ⟨q_r0, f_r0, q_r1, f_r1⟩ := x_r.al
  clear q_p0 f_p0 q_p1 f_p1; obtain ⟨q_p0, f_p0, q_p1, f_p1⟩ := x_p.al
  rw [HMY.out]
  go_wp2_with fail
  replace x_a := x_a.aside (b' := false) (A' := none) (n' := 0) (c' := 0) (g := w.heap.size + 1) (by omega)
  replace x_p := x_p.aside (b' := false) (A' := none) (n' := 0) (c' := 0) (g := w.heap.size + 1) (by omega)
  replace h := h.put (b' := false) (A' := none) (n' := 0) (c' := 0) x_r
  replace hb := put_below (g := w.heap.size + 1) hb (by omega) (.bool false) (.slice none 0 0)
  replace x_r := x_r.put false none 0 0
  clear q_a0 f_a0 q_a1 f_a1 q_r0 f_r0 q_r1 f_r1 q_p0 f_p0 q_p1 f_p1
  generalize (v2.setCell ⟨w.heap.size + 1, 0, none⟩ (.bool false)).setCell ⟨w.heap.size + 1, 1, none⟩ (.slice none 0 0) = v3 at *
  obtain ⟨q_a0, f_a0, q_a1, f_a1⟩ := x_a.al
  obtain ⟨q_r0, f_r0, q_r1, f_r1⟩ := x_r.al
  obtain ⟨q_p0, f_p0, q_p1, f_p1⟩ := x_p.al
  replace x_a := x_a.aside (b' := false) (A' := none) (n' := 0) (c' := 0) (g := w.heap.size + 1 + 1) (by omega)
  replace x_r := x_r.aside (b' := false) (A' := none) (n' := 0) (c' := 0) (g := w.heap.size + 1 + 1) (by omega)
  replace h := h.put (b' := false) (A' := none) (n' := 0) (c' := 0) x_p
  replace hb := put_below (g := w.heap.size + 1 + 1) hb (by omega) (.bool false) (.slice none 0 0)
  replace x_p := x_p.put false none 0 0
  clear q_a0 f_a0 q_a1 f_a1 q_r0 f_r0 q_r1 f_r1 q_p0 f_p0 q_p1 f_p1
  generalize (v3.setCell ⟨w.heap.size + 1 + 1, 0, none⟩ (.bool false)).setCell ⟨w.heap.size + 1 + 1, 1, none⟩ (.slice none 0 0) = v4 at *
  obtain ⟨q_a0, f_a0, q_a1, f_a1⟩ := x_a.al
  obtain ⟨q_r0, f_r0, q_r1, f_r1⟩ := x_r.al
  obtain ⟨q_p0, f_p0, q_p1, f_p1⟩ := x_p.al
  skip
  refine bodyPost_ret (v := .tuple #[.agg #[.bool false, .slice none 0 0], .agg #[.bool false, .slice none 0 0], .int .i64 1]) (by simp [results, Tryz.results15, go_sem, q_r0, q_r1, q_p0, q_p1]) rfl ?_
  exact ⟨_, _, _, _, _, _, rfl, Zn.nl _ _, Zn.nl _ _, hb⟩

set_option maxRecDepth 100000 in
set_option maxHeartbeats 4000000 in
theorem RSin_no {b : Bool} {A : Option Addr} {n c : Nat} {X : Int} {j : Nat} {w : World} (h : Zr w b A n c X j) (q m : Int) (k : Nat) (hv : mayB X q m 2 0 = false) (hj : j ≤ 20) :
    Calls Tryz.prog 17 #[.agg #[.bool b, .slice A n c], .int .i64 q, .int .i64 m] w (Ou2 w 0 0 1 k) := by
  have HMY := Lib.hid hv; clear hv
  go_enter Tryz.func17, Tryz.ntmps17
  go_wp2_with fail
  have x_a : Bx (w.alloc (.cells #[.bool b, .slice A n c] 24)) (w.heap.size) b A n c := by have := Bx.new w b A n c; simpa using this
  replace x_a := x_a.alloc (.cells #[.bool false, .slice none 0 0] 24)
  have x_r : Bx ((w.alloc (.cells #[.bool b, .slice A n c] 24)).alloc (.cells #[.bool false, .slice none 0 0] 24)) (w.heap.size + 1) false none 0 0 := by have := Bx.new (w.alloc (.cells #[.bool b, .slice A n c] 24)) false none 0 0; simpa using this
  replace x_a := x_a.alloc (.cells #[.bool false, .slice none 0 0] 24)
  replace x_r := x_r.alloc (.cells #[.bool false, .slice none 0 0] 24)
  have x_p : Bx (((w.alloc (.cells #[.bool b, .slice A n c] 24)).alloc (.cells #[.bool false, .slice none 0 0] 24)).alloc (.cells #[.bool false, .slice none 0 0] 24)) (w.heap.size + 1 + 1) false none 0 0 := by have := Bx.new ((w.alloc (.cells #[.bool b, .slice A n c] 24)).alloc (.cells #[.bool false, .slice none 0 0] 24)) false none 0 0; simpa using this
  have hb : Below w.heap.size w (((w.alloc (.cells #[.bool b, .slice A n c] 24)).alloc (.cells #[.bool false, .slice none 0 0] 24)).alloc (.cells #[.bool false, .slice none 0 0] 24)) := (Below.alloc (Below.alloc (Below.alloc (Below.refl w.heap.size w) (by simp) (.cells #[.bool b, .slice A n c] 24)) (by simp) (.cells #[.bool false, .slice none 0 0] 24)) (by simp; omega) (.cells #[.bool false, .slice none 0 0] 24))
  generalize ((w.alloc (.cells #[.bool b, .slice A n c] 24)).alloc (.cells #[.bool false, .slice none 0 0] 24)).alloc (.cells #[.bool false, .slice none 0 0] 24) = v1 at *
  replace h := h.keep hb
  obtain ⟨q_a0, f_a0, q_a1, f_a1⟩ := x_a.al
  obtain ⟨q_r0, f_r0, q_r1, f_r1⟩ := x_r.al
  obtain ⟨q_p0, f_p0, q_p1, f_p1⟩ := x_p.al
  go_wp2_with fail
  with_reducible refine (Rmay_any h q m 2 0 (by omega) (by omega)).mono ?_
  rintro e v2 ⟨rfl, hb1⟩
  replace x_a := x_a.keep hb1
  replace x_r := x_r.keep hb1
  replace x_p := x_p.keep hb1
  replace h := h.keep hb1
  replace hb := bthen hb hb1
  clear hb1
  clear q_a0 f_a0 q_a1 f_a1; obtain ⟨q_a0, f_a0, q_a1, f_a1⟩ := x_a.al
  clear q_r0 f_r0 q_r1 f_r1; obtain ⟨q_r0, f_r0, q_r1, f_r1⟩ := x_r.al
  clear q_p0 f_p0 q_p1 f_p1; obtain ⟨q_p0, f_p0, q_p1, f_p1⟩ := x_p.al
  rw [HMY.out]
  go_wp2_with fail
  replace x_a := x_a.aside (b' := false) (A' := none) (n' := 0) (c' := 0) (g := w.heap.size + 1) (by omega)
  replace x_p := x_p.aside (b' := false) (A' := none) (n' := 0) (c' := 0) (g := w.heap.size + 1) (by omega)
  replace h := h.put (b' := false) (A' := none) (n' := 0) (c' := 0) x_r
  replace hb := put_below (g := w.heap.size + 1) hb (by omega) (.bool false) (.slice none 0 0)
  replace x_r := x_r.put false none 0 0
  clear q_a0 f_a0 q_a1 f_a1 q_r0 f_r0 q_r1 f_r1 q_p0 f_p0 q_p1 f_p1
  generalize (v2.setCell ⟨w.heap.size + 1, 0, none⟩ (.bool false)).setCell ⟨w.heap.size + 1, 1, none⟩ (.slice none 0 0) = v3 at *
  obtain ⟨q_a0, f_a0, q_a1, f_a1⟩ := x_a.al
  obtain ⟨q_r0, f_r0, q_r1, f_r1⟩ := x_r.al
  obtain ⟨q_p0, f_p0, q_p1, f_p1⟩ := x_p.al
  replace x_a := x_a.aside (b' := false) (A' := none) (n' := 0) (c' := 0) (g := w.heap.size + 1 + 1) (by omega)
  replace x_r := x_r.aside (b' := false) (A' := none) (n' := 0) (c' := 0) (g := w.heap.size + 1 + 1) (by omega)
  replace h := h.put (b' := false) (A' := none) (n' := 0) (c' := 0) x_p
  replace hb := put_below (g := w.heap.size + 1 + 1) hb (by omega) (.bool false) (.slice none 0 0)
  replace x_p := x_p.put false none 0 0
  clear q_a0 f_a0 q_a1 f_a1 q_r0 f_r0 q_r1 f_r1 q_p0 f_p0 q_p1 f_p1
  generalize (v3.setCell ⟨w.heap.size + 1 + 1, 0, none⟩ (.bool false)).setCell ⟨w.heap.size + 1 + 1, 1, none⟩ (.slice none 0 0) = v4 at *
  obtain ⟨q_a0, f_a0, q_a1, f_a1⟩ := x_a.al
  obtain ⟨q_r0, f_r0, q_r1, f_r1⟩ := x_r.al
  obtain ⟨q_p0, f_p0, q_p1, f_p1⟩ := x_p.al
  skip
  refine bodyPost_ret (v := .tuple #[.agg #[.bool false, .slice none 0 0], .agg #[.bool false, .slice none 0 0], .int .i64 1]) (by simp [results, Tryz.results17, go_sem, q_r0, q_r1, q_p0, q_p1]) rfl ?_
  exact ⟨_, _, _, _, _, _, rfl, Zn.nl _ _, Zn.nl _ _, hb⟩

set_option maxRecDepth 100000 in
set_option maxHeartbeats 4000000 in
theorem RCos_no {b : Bool} {A : Option Addr} {n c : Nat} {X : Int} {j : Nat} {w : World} (h : Zr w b A n c X j) (q m : Int) (k : Nat) (hv : mayB X q m 2 0 = false) (hj : j ≤ 20) :
    Calls Tryz.prog 19 #[.agg #[.bool b, .slice A n c], .int .i64 q, .int .i64 m] w (Ou2 w 0 0 1 k) := by
  have HMY := Lib.hid hv; clear hv
  go_enter Tryz.func19, Tryz.ntmps19
  go_wp2_with fail
  have x_a : Bx (w.alloc (.cells #[.bool b, .slice A n c] 24)) (w.heap.size) b A n c := by have := Bx.new w b A n c; simpa using this
  replace x_a := x_a.alloc (.cells #[.bool false, .slice none 0 0] 24)
  have x_r : Bx ((w.alloc (.cells #[.bool b, .slice A n c] 24)).alloc (.cells #[.bool false, .slice none 0 0] 24)) (w.heap.size + 1) false none 0 0 := by have := Bx.new (w.alloc (.cells #[.bool b, .slice A n c] 24)) false none 0 0; simpa using this
  replace x_a := x_a.alloc (.cells #[.bool false, .slice none 0 0] 24)
  replace x_r := x_r.alloc (.cells #[.bool false, .slice none 0 0] 24)
  have x_p : Bx (((w.alloc (.cells #[.bool b, .slice A n c] 24)).alloc (.cells #[.bool false, .slice none 0 0] 24)).alloc (.cells #[.bool false, .slice none 0 0] 24)) (w.heap.size + 1 + 1) false none 0 0 := by have := Bx.new ((w.alloc (.cells #[.bool b, .slice A n c] 24)).alloc (.cells #[.bool false, .slice none 0 0] 24)) false none 0 0; simpa using this
  have hb : Below w.heap.size w (((w.alloc (.cells #[.bool b, .slice A n c] 24)).alloc (.cells #[.bool false, .slice none 0 0] 24)).alloc (.cells #[.bool false, .slice none 0 0] 24)) := (Below.alloc (Below.alloc (Below.alloc (Below.refl w.heap.size w) (by simp) (.cells #[.bool b, .slice A n c] 24)) (by simp) (.cells #[.bool false, .slice none 0 0] 24)) (by simp; omega) (.cells #[.bool false, .slice none 0 0] 24))
  generalize ((w.alloc (.cells #[.bool b, .slice A n c] 24)).alloc (.cells #[.bool false, .slice none 0 0] 24)).alloc (.cells #[.bool false, .slice none 0 0] 24) = v1 at *
  replace h := h.keep hb
  obtain ⟨q_a0, f_a0, q_a1, f_a1⟩ := x_a.al
  obtain ⟨q_r0, f_r0, q_r1, f_r1⟩ := x_r.al
  obtain ⟨q_p0, f_p0, q_p1, f_p1⟩ := x_p.al
  go_wp2_with fail
  with_reducible refine (Rmay_any h q m 2 0 (by omega) (by omega)).mono ?_
  rintro e v2 ⟨rfl, hb1⟩
  replace x_a := x_a.keep hb1
  replace x_r := x_r.keep hb1
  replace x_p := x_p.keep hb1
  replace h := h.keep hb1
  replace hb := bthen hb hb1
  clear hb1
  clear q_a0 f_a0 q_a1 f_a1; obtain ⟨q_a0, f_a0, q_a1, f_a1⟩ := x_a.al
  clear q_r0 f_r0 q_r1 f_r1; obtain ⟨q_r0, f_r0, q_r1, f_r1⟩ := x_r.al
  clear q_p0 f_p0 q_p1 f_p1; obtain ⟨q_p0, f_p0, q_p1, f_p1⟩ := x_p.al
  rw [HMY.out]
  go_wp2_with fail
  replace x_a := x_a.aside (b' := false) (A' := none) (n' := 0) (c' := 0) (g := w.heap.size + 1) (by omega)
  replace x_p := x_p.aside (b' := false) (A' := none) (n' := 0) (c' := 0) (g := w.heap.size + 1) (by omega)
  replace h := h.put (b' := false) (A' := none) (n' := 0) (c' := 0) x_r
  replace hb := put_below (g := w.heap.size + 1) hb (by omega) (.bool false) (.slice none 0 0)
  replace x_r := x_r.put false none 0 0
  clear q_a0 f_a0 q_a1 f_a1 q_r0 f_r0 q_r1 f_r1 q_p0 f_p0 q_p1 f_p1
  generalize (v2.setCell ⟨w.heap.size + 1, 0, none⟩ (.bool false)).setCell ⟨w.heap.size + 1, 1, none⟩ (.slice none 0 0) = v3 at *
  obtain ⟨q_a0, f_a0, q_a1, f_a1⟩ := x_a.al
  obtain ⟨q_r0, f_r0, q_r1, f_r1⟩ := x_r.al
  obtain ⟨q_p0, f_p0, q_p1, f_p1⟩ := x_p.al
  replace x_a := x_a.aside (b' := false) (A' := none) (n' := 0) (c' := 0) (g := w.heap.size + 1 + 1) (by omega)
  replace x_r := x_r.aside (b' := false) (A' := none) (n' := 0) (c' := 0) (g := w.heap.size + 1 + 1) (by omega)
  replace h := h.put (b' := false) (A' := none) (n' := 0) (c' := 0) x_p
  replace hb := put_below (g := w.heap.size + 1 + 1) hb (by omega) (.bool false) (.slice none 0 0)
  replace x_p := x_p.put false none 0 0
  clear q_a0 f_a0 q_a1 f_a1 q_r0 f_r0 q_r1 f_r1 q_p0 f_p0 q_p1 f_p1
  generalize (v3.setCell ⟨w.heap.size + 1 + 1, 0, none⟩ (.bool false)).setCell ⟨w.heap.size + 1 + 1, 1, none⟩ (.slice none 0 0) = v4 at *
  obtain ⟨q_a0, f_a0, q_a1, f_a1⟩ := x_a.al
  obtain ⟨q_r0, f_r0, q_r1, f_r1⟩ := x_r.al
  obtain ⟨q_p0, f_p0, q_p1, f_p1⟩ := x_p.al
  skip
  refine bodyPost_ret (v := .tuple #[.agg #[.bool false, .slice none 0 0], .agg #[.bool false, .slice none 0 0], .int .i64 1]) (by simp [results, Tryz.results19, go_sem, q_r0, q_r1, q_p0, q_p1]) rfl ?_
  exact ⟨_, _, _, _, _, _, rfl, Zn.nl _ _, Zn.nl _ _, hb⟩

end Go.Proofs.YthlpdljkclngdaaGreat
