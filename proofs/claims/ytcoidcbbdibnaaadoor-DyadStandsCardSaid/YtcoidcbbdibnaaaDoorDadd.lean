/-
  dyad: Cmp, Add, Sub, Mul.
-/
import Derived.Test.YtcoidcbbdibnaaaDoorDal
namespace Go.Proofs.YtcoidcbbdibnaaaDoor
open Go.RowKit
set_option linter.unusedVariables false

set_option maxRecDepth 100000 in
set_option maxHeartbeats 2000000 in
theorem DCmp_any {b b2 : Bool} {A A2 : Option Addr} {n c n2 c2 : Nat} {X Y e f : Int} {j j2 : Nat} {w : World} (h : Zr w b A n c X j) (h2 : Zr w b2 A2 n2 c2 Y j2) (hj : j ≤ 100000) (hj2 : j2 ≤ 100000) :
    Calls Tryd.prog 20 #[.agg #[.bool b, .slice A n c, .int .i64 e], .agg #[.bool b2, .slice A2 n2 c2, .int .i64 f]] w fun en w' => en = .returned (.int .i64 (sgnI (alP X e f - alQ Y e f))) ∧ Below w.heap.size w w' := by
  have hm := alE_in e f
  go_enter Tryd.func20, Tryd.ntmps20
  go_wp2_with fail
  have x_a : Dx (w.alloc (.cells #[.bool b, .slice A n c, .int .i64 e] 26)) (w.heap.size) b A n c e := by have := Dx.new w b A n c e; simpa using this
  replace x_a := x_a.alloc (.cells #[.bool b2, .slice A2 n2 c2, .int .i64 f] 26)
  have x_b : Dx ((w.alloc (.cells #[.bool b, .slice A n c, .int .i64 e] 26)).alloc (.cells #[.bool b2, .slice A2 n2 c2, .int .i64 f] 26)) (w.heap.size + 1) b2 A2 n2 c2 f := by have := Dx.new (w.alloc (.cells #[.bool b, .slice A n c, .int .i64 e] 26)) b2 A2 n2 c2 f; simpa using this
  have hb : Below w.heap.size w ((w.alloc (.cells #[.bool b, .slice A n c, .int .i64 e] 26)).alloc (.cells #[.bool b2, .slice A2 n2 c2, .int .i64 f] 26)) := (Below.alloc (Below.alloc (Below.refl w.heap.size w) (by simp) (.cells #[.bool b, .slice A n c, .int .i64 e] 26)) (by simp) (.cells #[.bool b2, .slice A2 n2 c2, .int .i64 f] 26))
  generalize (w.alloc (.cells #[.bool b, .slice A n c, .int .i64 e] 26)).alloc (.cells #[.bool b2, .slice A2 n2 c2, .int .i64 f] 26) = v1 at *
  replace h := h.keep hb
  replace h2 := h2.keep hb
  have q_a0 := x_a.c0; have q_a1 := x_a.c1; have f_a0 := x_a.fr 0; have f_a1 := x_a.fr 1; have q_a2 := x_a.c2; have f_a2 := x_a.fr 2
  have q_b0 := x_b.c0; have q_b1 := x_b.c1; have f_b0 := x_b.fr 0; have f_b1 := x_b.fr 1; have q_b2 := x_b.c2; have f_b2 := x_b.fr 2
  go_wp2_with fail
  with_reducible refine (align_any h h2 200000 (by omega) (by omega) (by omega)).mono ?_
  rintro e v2 ⟨A5, n5, c5, A6, n6, c6, rfl, z5, z6, hb1⟩
  replace x_a := x_a.keep hb1
  replace x_b := x_b.keep hb1
  replace h := h.keep hb1
  replace h2 := h2.keep hb1
  replace hb := bthen hb hb1
  clear hb1
  replace q_a0 := x_a.c0; replace q_a1 := x_a.c1; replace f_a0 := x_a.fr 0; replace f_a1 := x_a.fr 1; replace q_a2 := x_a.c2; replace f_a2 := x_a.fr 2
  replace q_b0 := x_b.c0; replace q_b1 := x_b.c1; replace f_b0 := x_b.fr 0; replace f_b1 := x_b.fr 1; replace q_b2 := x_b.c2; replace f_b2 := x_b.fr 2
  clear h h2
  have y_a := ((x_a.alloc (.cells #[.bool (ngB (alP X e f)), .slice A5 n5 c5] 24)).alloc (.cells #[.bool (ngB (alQ Y e f)), .slice A6 n6 c6] 24)); have yq_a0 := y_a.c0; have yq_a1 := y_a.c1; have yq_a2 := y_a.c2
  have y_b := ((x_b.alloc (.cells #[.bool (ngB (alP X e f)), .slice A5 n5 c5] 24)).alloc (.cells #[.bool (ngB (alQ Y e f)), .slice A6 n6 c6] 24)); have yq_b0 := y_b.c0; have yq_b1 := y_b.c1; have yq_b2 := y_b.c2
  go_wp2_with fail
  clear y_a yq_a0 yq_a1 yq_a2 y_b yq_b0 yq_b1 yq_b2
  have l_a_x := x_a.lt
  have l_b_x := x_b.lt
  have e_x : w.heap.size ≤ v2.heap.size := hb.size
  have hb1 := below_alloc2 v2 (.cells #[.bool (ngB (alP X e f)), .slice A5 n5 c5] 24) (.cells #[.bool (ngB (alQ Y e f)), .slice A6 n6 c6] 24)
  have x_x := (Bx.new v2 (ngB (alP X e f)) A5 n5 c5).alloc (.cells #[.bool (ngB (alQ Y e f)), .slice A6 n6 c6] 24)
  have x_y : Bx ((v2.alloc (.cells #[.bool (ngB (alP X e f)), .slice A5 n5 c5] 24)).alloc (.cells #[.bool (ngB (alQ Y e f)), .slice A6 n6 c6] 24)) (v2.heap.size + 1) (ngB (alQ Y e f)) A6 n6 c6 := by have := Bx.new (v2.alloc (.cells #[.bool (ngB (alP X e f)), .slice A5 n5 c5] 24)) (ngB (alQ Y e f)) A6 n6 c6; simpa using this
  replace x_a := x_a.keep hb1
  replace x_b := x_b.keep hb1
  replace z5 := z5.keep hb1
  replace z6 := z6.keep hb1
  replace hb := bthen hb hb1
  clear hb1
  replace q_a0 := x_a.c0; replace q_a1 := x_a.c1; replace f_a0 := x_a.fr 0; replace f_a1 := x_a.fr 1; replace q_a2 := x_a.c2; replace f_a2 := x_a.fr 2
  replace q_b0 := x_b.c0; replace q_b1 := x_b.c1; replace f_b0 := x_b.fr 0; replace f_b1 := x_b.fr 1; replace q_b2 := x_b.c2; replace f_b2 := x_b.fr 2
  clear q_a0 q_a1 f_a0 f_a1 q_a2 f_a2 q_b0 q_b1 f_b0 f_b1 q_b2 f_b2
  generalize (v2.alloc (.cells #[.bool (ngB (alP X e f)), .slice A5 n5 c5] 24)).alloc (.cells #[.bool (ngB (alQ Y e f)), .slice A6 n6 c6] 24) = v3 at *
  have q_a0 := x_a.c0; have q_a1 := x_a.c1; have f_a0 := x_a.fr 0; have f_a1 := x_a.fr 1; have q_a2 := x_a.c2; have f_a2 := x_a.fr 2
  have q_b0 := x_b.c0; have q_b1 := x_b.c1; have f_b0 := x_b.fr 0; have f_b1 := x_b.fr 1; have q_b2 := x_b.c2; have f_b2 := x_b.fr 2
  have q_x0 := x_x.c0; have q_x1 := x_x.c1; have f_x0 := x_x.fr 0; have f_x1 := x_x.fr 1
  have q_y0 := x_y.c0; have q_y1 := x_y.c1; have f_y0 := x_y.fr 0; have f_y1 := x_y.fr 1
  skip
  with_reducible refine (ZCmp_any z5.zr z6.zr (by omega) (by omega)).mono ?_
  rintro e v4 ⟨rfl, hb1⟩
  replace x_a := x_a.keep hb1
  replace x_b := x_b.keep hb1
  replace x_x := x_x.keep hb1
  replace x_y := x_y.keep hb1
  replace z5 := z5.keep hb1
  replace z6 := z6.keep hb1
  replace hb := bthen hb hb1
  clear hb1
  replace q_a0 := x_a.c0; replace q_a1 := x_a.c1; replace f_a0 := x_a.fr 0; replace f_a1 := x_a.fr 1; replace q_a2 := x_a.c2; replace f_a2 := x_a.fr 2
  replace q_b0 := x_b.c0; replace q_b1 := x_b.c1; replace f_b0 := x_b.fr 0; replace f_b1 := x_b.fr 1; replace q_b2 := x_b.c2; replace f_b2 := x_b.fr 2
  replace q_x0 := x_x.c0; replace q_x1 := x_x.c1; replace f_x0 := x_x.fr 0; replace f_x1 := x_x.fr 1
  replace q_y0 := x_y.c0; replace q_y1 := x_y.c1; replace f_y0 := x_y.fr 0; replace f_y1 := x_y.fr 1
  go_wp2
  go_ret
  exact ⟨rfl, hb⟩

set_option maxRecDepth 100000 in
set_option maxHeartbeats 2000000 in
theorem DAdd_any {b b2 : Bool} {A A2 : Option Addr} {n c n2 c2 : Nat} {X Y e f : Int} {j j2 : Nat} {w : World} (h : Zr w b A n c X j) (h2 : Zr w b2 A2 n2 c2 Y j2) (hT : Tab w) (k : Nat) (hk : j + 129 ≤ k) (hk2 : j2 + 129 ≤ k) (hj : k ≤ 100000) :
    Calls Tryd.prog 22 #[.agg #[.bool b, .slice A n c, .int .i64 e], .agg #[.bool b2, .slice A2 n2 c2, .int .i64 f]] w (OutD w (od (alP X e f + alQ Y e f)) (nE (alP X e f + alQ Y e f) (alE e f)) (k + 1)) := by
  have hm := alE_in e f
  go_enter Tryd.func22, Tryd.ntmps22
  go_wp2_with fail
  have x_a : Dx (w.alloc (.cells #[.bool b, .slice A n c, .int .i64 e] 26)) (w.heap.size) b A n c e := by have := Dx.new w b A n c e; simpa using this
  replace x_a := x_a.alloc (.cells #[.bool b2, .slice A2 n2 c2, .int .i64 f] 26)
  have x_b : Dx ((w.alloc (.cells #[.bool b, .slice A n c, .int .i64 e] 26)).alloc (.cells #[.bool b2, .slice A2 n2 c2, .int .i64 f] 26)) (w.heap.size + 1) b2 A2 n2 c2 f := by have := Dx.new (w.alloc (.cells #[.bool b, .slice A n c, .int .i64 e] 26)) b2 A2 n2 c2 f; simpa using this
  replace x_a := x_a.alloc (.cells #[.bool false, .slice none 0 0, .int .i64 0] 26)
  replace x_b := x_b.alloc (.cells #[.bool false, .slice none 0 0, .int .i64 0] 26)
  have x_r : Dx (((w.alloc (.cells #[.bool b, .slice A n c, .int .i64 e] 26)).alloc (.cells #[.bool b2, .slice A2 n2 c2, .int .i64 f] 26)).alloc (.cells #[.bool false, .slice none 0 0, .int .i64 0] 26)) (w.heap.size + 1 + 1) false none 0 0 0 := by have := Dx.new ((w.alloc (.cells #[.bool b, .slice A n c, .int .i64 e] 26)).alloc (.cells #[.bool b2, .slice A2 n2 c2, .int .i64 f] 26)) false none 0 0 0; simpa using this
  have hb : Below w.heap.size w (((w.alloc (.cells #[.bool b, .slice A n c, .int .i64 e] 26)).alloc (.cells #[.bool b2, .slice A2 n2 c2, .int .i64 f] 26)).alloc (.cells #[.bool false, .slice none 0 0, .int .i64 0] 26)) := (Below.alloc (Below.alloc (Below.alloc (Below.refl w.heap.size w) (by simp) (.cells #[.bool b, .slice A n c, .int .i64 e] 26)) (by simp) (.cells #[.bool b2, .slice A2 n2 c2, .int .i64 f] 26)) (by simp; omega) (.cells #[.bool false, .slice none 0 0, .int .i64 0] 26))
  generalize ((w.alloc (.cells #[.bool b, .slice A n c, .int .i64 e] 26)).alloc (.cells #[.bool b2, .slice A2 n2 c2, .int .i64 f] 26)).alloc (.cells #[.bool false, .slice none 0 0, .int .i64 0] 26) = v1 at *
  replace h := h.keep hb
  replace h2 := h2.keep hb
  replace hT := hT.keep hb
  have q_a0 := x_a.c0; have q_a1 := x_a.c1; have f_a0 := x_a.fr 0; have f_a1 := x_a.fr 1; have q_a2 := x_a.c2; have f_a2 := x_a.fr 2
  have q_b0 := x_b.c0; have q_b1 := x_b.c1; have f_b0 := x_b.fr 0; have f_b1 := x_b.fr 1; have q_b2 := x_b.c2; have f_b2 := x_b.fr 2
  have q_r0 := x_r.c0; have q_r1 := x_r.c1; have f_r0 := x_r.fr 0; have f_r1 := x_r.fr 1; have q_r2 := x_r.c2; have f_r2 := x_r.fr 2
  go_wp2_with fail
  with_reducible refine (align_any h h2 (k - 1) (by omega) (by omega) (by omega)).mono ?_
  rintro e v2 ⟨A5, n5, c5, A6, n6, c6, rfl, z5, z6, hb1⟩
  replace x_a := x_a.keep hb1
  replace x_b := x_b.keep hb1
  replace x_r := x_r.keep hb1
  replace h := h.keep hb1
  replace h2 := h2.keep hb1
  replace hT := hT.keep hb1
  replace hb := bthen hb hb1
  clear hb1
  replace q_a0 := x_a.c0; replace q_a1 := x_a.c1; replace f_a0 := x_a.fr 0; replace f_a1 := x_a.fr 1; replace q_a2 := x_a.c2; replace f_a2 := x_a.fr 2
  replace q_b0 := x_b.c0; replace q_b1 := x_b.c1; replace f_b0 := x_b.fr 0; replace f_b1 := x_b.fr 1; replace q_b2 := x_b.c2; replace f_b2 := x_b.fr 2
  replace q_r0 := x_r.c0; replace q_r1 := x_r.c1; replace f_r0 := x_r.fr 0; replace f_r1 := x_r.fr 1; replace q_r2 := x_r.c2; replace f_r2 := x_r.fr 2
  clear h h2
  have y_a := ((x_a.alloc (.cells #[.bool (ngB (alP X e f)), .slice A5 n5 c5] 24)).alloc (.cells #[.bool (ngB (alQ Y e f)), .slice A6 n6 c6] 24)); have yq_a0 := y_a.c0; have yq_a1 := y_a.c1; have yq_a2 := y_a.c2
  have y_b := ((x_b.alloc (.cells #[.bool (ngB (alP X e f)), .slice A5 n5 c5] 24)).alloc (.cells #[.bool (ngB (alQ Y e f)), .slice A6 n6 c6] 24)); have yq_b0 := y_b.c0; have yq_b1 := y_b.c1; have yq_b2 := y_b.c2
  have y_r := ((x_r.alloc (.cells #[.bool (ngB (alP X e f)), .slice A5 n5 c5] 24)).alloc (.cells #[.bool (ngB (alQ Y e f)), .slice A6 n6 c6] 24)); have yq_r0 := y_r.c0; have yq_r1 := y_r.c1; have yq_r2 := y_r.c2
  go_wp2_with fail
  clear y_a yq_a0 yq_a1 yq_a2 y_b yq_b0 yq_b1 yq_b2 y_r yq_r0 yq_r1 yq_r2
  have l_a_x := x_a.lt
  have l_b_x := x_b.lt
  have l_r_x := x_r.lt
  have e_x : w.heap.size ≤ v2.heap.size := hb.size
  have hb1 := below_alloc2 v2 (.cells #[.bool (ngB (alP X e f)), .slice A5 n5 c5] 24) (.cells #[.bool (ngB (alQ Y e f)), .slice A6 n6 c6] 24)
  have x_x := (Bx.new v2 (ngB (alP X e f)) A5 n5 c5).alloc (.cells #[.bool (ngB (alQ Y e f)), .slice A6 n6 c6] 24)
  have x_y : Bx ((v2.alloc (.cells #[.bool (ngB (alP X e f)), .slice A5 n5 c5] 24)).alloc (.cells #[.bool (ngB (alQ Y e f)), .slice A6 n6 c6] 24)) (v2.heap.size + 1) (ngB (alQ Y e f)) A6 n6 c6 := by have := Bx.new (v2.alloc (.cells #[.bool (ngB (alP X e f)), .slice A5 n5 c5] 24)) (ngB (alQ Y e f)) A6 n6 c6; simpa using this
  replace x_a := x_a.keep hb1
  replace x_b := x_b.keep hb1
  replace x_r := x_r.keep hb1
  replace hT := hT.keep hb1
  replace z5 := z5.keep hb1
  replace z6 := z6.keep hb1
  replace hb := bthen hb hb1
  clear hb1
  replace q_a0 := x_a.c0; replace q_a1 := x_a.c1; replace f_a0 := x_a.fr 0; replace f_a1 := x_a.fr 1; replace q_a2 := x_a.c2; replace f_a2 := x_a.fr 2
  replace q_b0 := x_b.c0; replace q_b1 := x_b.c1; replace f_b0 := x_b.fr 0; replace f_b1 := x_b.fr 1; replace q_b2 := x_b.c2; replace f_b2 := x_b.fr 2
  replace q_r0 := x_r.c0; replace q_r1 := x_r.c1; replace f_r0 := x_r.fr 0; replace f_r1 := x_r.fr 1; replace q_r2 := x_r.c2; replace f_r2 := x_r.fr 2
  clear q_a0 q_a1 f_a0 f_a1 q_a2 f_a2 q_b0 q_b1 f_b0 f_b1 q_b2 f_b2 q_r0 q_r1 f_r0 f_r1 q_r2 f_r2
  generalize (v2.alloc (.cells #[.bool (ngB (alP X e f)), .slice A5 n5 c5] 24)).alloc (.cells #[.bool (ngB (alQ Y e f)), .slice A6 n6 c6] 24) = v3 at *
  have q_a0 := x_a.c0; have q_a1 := x_a.c1; have f_a0 := x_a.fr 0; have f_a1 := x_a.fr 1; have q_a2 := x_a.c2; have f_a2 := x_a.fr 2
  have q_b0 := x_b.c0; have q_b1 := x_b.c1; have f_b0 := x_b.fr 0; have f_b1 := x_b.fr 1; have q_b2 := x_b.c2; have f_b2 := x_b.fr 2
  have q_r0 := x_r.c0; have q_r1 := x_r.c1; have f_r0 := x_r.fr 0; have f_r1 := x_r.fr 1; have q_r2 := x_r.c2; have f_r2 := x_r.fr 2
  have q_x0 := x_x.c0; have q_x1 := x_x.c1; have f_x0 := x_x.fr 0; have f_x1 := x_x.fr 1
  have q_y0 := x_y.c0; have q_y1 := x_y.c1; have f_y0 := x_y.fr 0; have f_y1 := x_y.fr 1
  skip
  with_reducible refine (ZAdd_any z5.zr z6.zr k (by omega) (by omega) (by omega)).mono ?_
  rintro e v4 ⟨A7, n7, c7, rfl, z7, hb1⟩
  replace x_a := x_a.keep hb1
  replace x_b := x_b.keep hb1
  replace x_r := x_r.keep hb1
  replace x_x := x_x.keep hb1
  replace x_y := x_y.keep hb1
  replace hT := hT.keep hb1
  replace z5 := z5.keep hb1
  replace z6 := z6.keep hb1
  replace hb := bthen hb hb1
  clear hb1
  replace q_a0 := x_a.c0; replace q_a1 := x_a.c1; replace f_a0 := x_a.fr 0; replace f_a1 := x_a.fr 1; replace q_a2 := x_a.c2; replace f_a2 := x_a.fr 2
  replace q_b0 := x_b.c0; replace q_b1 := x_b.c1; replace f_b0 := x_b.fr 0; replace f_b1 := x_b.fr 1; replace q_b2 := x_b.c2; replace f_b2 := x_b.fr 2
  replace q_r0 := x_r.c0; replace q_r1 := x_r.c1; replace f_r0 := x_r.fr 0; replace f_r1 := x_r.fr 1; replace q_r2 := x_r.c2; replace f_r2 := x_r.fr 2
  replace q_x0 := x_x.c0; replace q_x1 := x_x.c1; replace f_x0 := x_x.fr 0; replace f_x1 := x_x.fr 1
  replace q_y0 := x_y.c0; replace q_y1 := x_y.c1; replace f_y0 := x_y.fr 0; replace f_y1 := x_y.fr 1
  go_wp2_with fail
  with_reducible refine (result_any z7.zr hT (alE e f) (by omega) (k + 1) (by omega) (by omega)).mono ?_
  rintro e v5 ⟨A8, n8, c8, rfl, z8, hb1⟩
  replace x_a := x_a.keep hb1
  replace x_b := x_b.keep hb1
  replace x_r := x_r.keep hb1
  replace x_x := x_x.keep hb1
  replace x_y := x_y.keep hb1
  replace hT := hT.keep hb1
  replace z5 := z5.keep hb1
  replace z6 := z6.keep hb1
  replace z7 := z7.keep hb1
  replace hb := bthen hb hb1
  clear hb1
  replace q_a0 := x_a.c0; replace q_a1 := x_a.c1; replace f_a0 := x_a.fr 0; replace f_a1 := x_a.fr 1; replace q_a2 := x_a.c2; replace f_a2 := x_a.fr 2
  replace q_b0 := x_b.c0; replace q_b1 := x_b.c1; replace f_b0 := x_b.fr 0; replace f_b1 := x_b.fr 1; replace q_b2 := x_b.c2; replace f_b2 := x_b.fr 2
  replace q_r0 := x_r.c0; replace q_r1 := x_r.c1; replace f_r0 := x_r.fr 0; replace f_r1 := x_r.fr 1; replace q_r2 := x_r.c2; replace f_r2 := x_r.fr 2
  replace q_x0 := x_x.c0; replace q_x1 := x_x.c1; replace f_x0 := x_x.fr 0; replace f_x1 := x_x.fr 1
  replace q_y0 := x_y.c0; replace q_y1 := x_y.c1; replace f_y0 := x_y.fr 0; replace f_y1 := x_y.fr 1
  go_wp2
  replace x_a := x_a.asideD (b' := (ngB (od (alP X e f + alQ Y e f)))) (A' := A8) (n' := n8) (c' := c8) (e' := (nE (alP X e f + alQ Y e f) (alE e f))) (g := w.heap.size + 1 + 1) (by omega)
  replace x_b := x_b.asideD (b' := (ngB (od (alP X e f + alQ Y e f)))) (A' := A8) (n' := n8) (c' := c8) (e' := (nE (alP X e f + alQ Y e f) (alE e f))) (g := w.heap.size + 1 + 1) (by omega)
  replace x_x := x_x.asideD (b' := (ngB (od (alP X e f + alQ Y e f)))) (A' := A8) (n' := n8) (c' := c8) (e' := (nE (alP X e f + alQ Y e f) (alE e f))) (g := w.heap.size + 1 + 1) (by omega)
  replace x_y := x_y.asideD (b' := (ngB (od (alP X e f + alQ Y e f)))) (A' := A8) (n' := n8) (c' := c8) (e' := (nE (alP X e f + alQ Y e f) (alE e f))) (g := w.heap.size + 1 + 1) (by omega)
  replace hT := hT.putD (b' := (ngB (od (alP X e f + alQ Y e f)))) (A' := A8) (n' := n8) (c' := c8) (e' := (nE (alP X e f + alQ Y e f) (alE e f))) x_r
  replace z5 := z5.putD (b' := (ngB (od (alP X e f + alQ Y e f)))) (A' := A8) (n' := n8) (c' := c8) (e' := (nE (alP X e f + alQ Y e f) (alE e f))) x_r
  replace z6 := z6.putD (b' := (ngB (od (alP X e f + alQ Y e f)))) (A' := A8) (n' := n8) (c' := c8) (e' := (nE (alP X e f + alQ Y e f) (alE e f))) x_r
  replace z7 := z7.putD (b' := (ngB (od (alP X e f + alQ Y e f)))) (A' := A8) (n' := n8) (c' := c8) (e' := (nE (alP X e f + alQ Y e f) (alE e f))) x_r
  replace z8 := z8.putD (b' := (ngB (od (alP X e f + alQ Y e f)))) (A' := A8) (n' := n8) (c' := c8) (e' := (nE (alP X e f + alQ Y e f) (alE e f))) x_r
  replace hb := put_belowD (g := w.heap.size + 1 + 1) hb (by omega) (.bool (ngB (od (alP X e f + alQ Y e f)))) (.slice A8 n8 c8) (.int .i64 (nE (alP X e f + alQ Y e f) (alE e f)))
  replace x_r := x_r.put (ngB (od (alP X e f + alQ Y e f))) A8 n8 c8 (nE (alP X e f + alQ Y e f) (alE e f))
  clear q_a0 q_a1 f_a0 f_a1 q_a2 f_a2 q_b0 q_b1 f_b0 f_b1 q_b2 f_b2 q_r0 q_r1 f_r0 f_r1 q_r2 f_r2 q_x0 q_x1 f_x0 f_x1 q_y0 q_y1 f_y0 f_y1
  generalize ((v5.setCell ⟨w.heap.size + 1 + 1, 0, none⟩ (.bool (ngB (od (alP X e f + alQ Y e f))))).setCell ⟨w.heap.size + 1 + 1, 1, none⟩ (.slice A8 n8 c8)).setCell ⟨w.heap.size + 1 + 1, 2, none⟩ (.int .i64 (nE (alP X e f + alQ Y e f) (alE e f))) = v6 at *
  have q_a0 := x_a.c0; have q_a1 := x_a.c1; have f_a0 := x_a.fr 0; have f_a1 := x_a.fr 1; have q_a2 := x_a.c2; have f_a2 := x_a.fr 2
  have q_b0 := x_b.c0; have q_b1 := x_b.c1; have f_b0 := x_b.fr 0; have f_b1 := x_b.fr 1; have q_b2 := x_b.c2; have f_b2 := x_b.fr 2
  have q_r0 := x_r.c0; have q_r1 := x_r.c1; have f_r0 := x_r.fr 0; have f_r1 := x_r.fr 1; have q_r2 := x_r.c2; have f_r2 := x_r.fr 2
  have q_x0 := x_x.c0; have q_x1 := x_x.c1; have f_x0 := x_x.fr 0; have f_x1 := x_x.fr 1
  have q_y0 := x_y.c0; have q_y1 := x_y.c1; have f_y0 := x_y.fr 0; have f_y1 := x_y.fr 1
  refine bodyPost_ret (v := .agg #[.bool (ngB (od (alP X e f + alQ Y e f))), .slice A8 n8 c8, .int .i64 (nE (alP X e f + alQ Y e f) (alE e f))]) (by simp [results, Tryd.results22, go_sem, q_r0, q_r1, q_r2]) rfl ?_
  exact ⟨_, _, _, rfl, z8, hb⟩

set_option maxRecDepth 100000 in
set_option maxHeartbeats 2000000 in
theorem DSub_any {b b2 : Bool} {A A2 : Option Addr} {n c n2 c2 : Nat} {X Y e f : Int} {j j2 : Nat} {w : World} (h : Zr w b A n c X j) (h2 : Zr w b2 A2 n2 c2 Y j2) (hT : Tab w) (k : Nat) (hk : j + 129 ≤ k) (hk2 : j2 + 129 ≤ k) (hj : k ≤ 100000) :
    Calls Tryd.prog 24 #[.agg #[.bool b, .slice A n c, .int .i64 e], .agg #[.bool b2, .slice A2 n2 c2, .int .i64 f]] w (OutD w (od (alP X e f - alQ Y e f)) (nE (alP X e f - alQ Y e f) (alE e f)) (k + 1)) := by
  have hm := alE_in e f
  go_enter Tryd.func24, Tryd.ntmps24
  go_wp2_with fail
  have x_a : Dx (w.alloc (.cells #[.bool b, .slice A n c, .int .i64 e] 26)) (w.heap.size) b A n c e := by have := Dx.new w b A n c e; simpa using this
  replace x_a := x_a.alloc (.cells #[.bool b2, .slice A2 n2 c2, .int .i64 f] 26)
  have x_b : Dx ((w.alloc (.cells #[.bool b, .slice A n c, .int .i64 e] 26)).alloc (.cells #[.bool b2, .slice A2 n2 c2, .int .i64 f] 26)) (w.heap.size + 1) b2 A2 n2 c2 f := by have := Dx.new (w.alloc (.cells #[.bool b, .slice A n c, .int .i64 e] 26)) b2 A2 n2 c2 f; simpa using this
  replace x_a := x_a.alloc (.cells #[.bool false, .slice none 0 0, .int .i64 0] 26)
  replace x_b := x_b.alloc (.cells #[.bool false, .slice none 0 0, .int .i64 0] 26)
  have x_r : Dx (((w.alloc (.cells #[.bool b, .slice A n c, .int .i64 e] 26)).alloc (.cells #[.bool b2, .slice A2 n2 c2, .int .i64 f] 26)).alloc (.cells #[.bool false, .slice none 0 0, .int .i64 0] 26)) (w.heap.size + 1 + 1) false none 0 0 0 := by have := Dx.new ((w.alloc (.cells #[.bool b, .slice A n c, .int .i64 e] 26)).alloc (.cells #[.bool b2, .slice A2 n2 c2, .int .i64 f] 26)) false none 0 0 0; simpa using this
  have hb : Below w.heap.size w (((w.alloc (.cells #[.bool b, .slice A n c, .int .i64 e] 26)).alloc (.cells #[.bool b2, .slice A2 n2 c2, .int .i64 f] 26)).alloc (.cells #[.bool false, .slice none 0 0, .int .i64 0] 26)) := (Below.alloc (Below.alloc (Below.alloc (Below.refl w.heap.size w) (by simp) (.cells #[.bool b, .slice A n c, .int .i64 e] 26)) (by simp) (.cells #[.bool b2, .slice A2 n2 c2, .int .i64 f] 26)) (by simp; omega) (.cells #[.bool false, .slice none 0 0, .int .i64 0] 26))
  generalize ((w.alloc (.cells #[.bool b, .slice A n c, .int .i64 e] 26)).alloc (.cells #[.bool b2, .slice A2 n2 c2, .int .i64 f] 26)).alloc (.cells #[.bool false, .slice none 0 0, .int .i64 0] 26) = v1 at *
  replace h := h.keep hb
  replace h2 := h2.keep hb
  replace hT := hT.keep hb
  have q_a0 := x_a.c0; have q_a1 := x_a.c1; have f_a0 := x_a.fr 0; have f_a1 := x_a.fr 1; have q_a2 := x_a.c2; have f_a2 := x_a.fr 2
  have q_b0 := x_b.c0; have q_b1 := x_b.c1; have f_b0 := x_b.fr 0; have f_b1 := x_b.fr 1; have q_b2 := x_b.c2; have f_b2 := x_b.fr 2
  have q_r0 := x_r.c0; have q_r1 := x_r.c1; have f_r0 := x_r.fr 0; have f_r1 := x_r.fr 1; have q_r2 := x_r.c2; have f_r2 := x_r.fr 2
  go_wp2_with fail
  with_reducible refine (align_any h h2 (k - 1) (by omega) (by omega) (by omega)).mono ?_
  rintro e v2 ⟨A5, n5, c5, A6, n6, c6, rfl, z5, z6, hb1⟩
  replace x_a := x_a.keep hb1
  replace x_b := x_b.keep hb1
  replace x_r := x_r.keep hb1
  replace h := h.keep hb1
  replace h2 := h2.keep hb1
  replace hT := hT.keep hb1
  replace hb := bthen hb hb1
  clear hb1
  replace q_a0 := x_a.c0; replace q_a1 := x_a.c1; replace f_a0 := x_a.fr 0; replace f_a1 := x_a.fr 1; replace q_a2 := x_a.c2; replace f_a2 := x_a.fr 2
  replace q_b0 := x_b.c0; replace q_b1 := x_b.c1; replace f_b0 := x_b.fr 0; replace f_b1 := x_b.fr 1; replace q_b2 := x_b.c2; replace f_b2 := x_b.fr 2
  replace q_r0 := x_r.c0; replace q_r1 := x_r.c1; replace f_r0 := x_r.fr 0; replace f_r1 := x_r.fr 1; replace q_r2 := x_r.c2; replace f_r2 := x_r.fr 2
  clear h h2
  have y_a := ((x_a.alloc (.cells #[.bool (ngB (alP X e f)), .slice A5 n5 c5] 24)).alloc (.cells #[.bool (ngB (alQ Y e f)), .slice A6 n6 c6] 24)); have yq_a0 := y_a.c0; have yq_a1 := y_a.c1; have yq_a2 := y_a.c2
  have y_b := ((x_b.alloc (.cells #[.bool (ngB (alP X e f)), .slice A5 n5 c5] 24)).alloc (.cells #[.bool (ngB (alQ Y e f)), .slice A6 n6 c6] 24)); have yq_b0 := y_b.c0; have yq_b1 := y_b.c1; have yq_b2 := y_b.c2
  have y_r := ((x_r.alloc (.cells #[.bool (ngB (alP X e f)), .slice A5 n5 c5] 24)).alloc (.cells #[.bool (ngB (alQ Y e f)), .slice A6 n6 c6] 24)); have yq_r0 := y_r.c0; have yq_r1 := y_r.c1; have yq_r2 := y_r.c2
  go_wp2_with fail
  clear y_a yq_a0 yq_a1 yq_a2 y_b yq_b0 yq_b1 yq_b2 y_r yq_r0 yq_r1 yq_r2
  have l_a_x := x_a.lt
  have l_b_x := x_b.lt
  have l_r_x := x_r.lt
  have e_x : w.heap.size ≤ v2.heap.size := hb.size
  have hb1 := below_alloc2 v2 (.cells #[.bool (ngB (alP X e f)), .slice A5 n5 c5] 24) (.cells #[.bool (ngB (alQ Y e f)), .slice A6 n6 c6] 24)
  have x_x := (Bx.new v2 (ngB (alP X e f)) A5 n5 c5).alloc (.cells #[.bool (ngB (alQ Y e f)), .slice A6 n6 c6] 24)
  have x_y : Bx ((v2.alloc (.cells #[.bool (ngB (alP X e f)), .slice A5 n5 c5] 24)).alloc (.cells #[.bool (ngB (alQ Y e f)), .slice A6 n6 c6] 24)) (v2.heap.size + 1) (ngB (alQ Y e f)) A6 n6 c6 := by have := Bx.new (v2.alloc (.cells #[.bool (ngB (alP X e f)), .slice A5 n5 c5] 24)) (ngB (alQ Y e f)) A6 n6 c6; simpa using this
  replace x_a := x_a.keep hb1
  replace x_b := x_b.keep hb1
  replace x_r := x_r.keep hb1
  replace hT := hT.keep hb1
  replace z5 := z5.keep hb1
  replace z6 := z6.keep hb1
  replace hb := bthen hb hb1
  clear hb1
  replace q_a0 := x_a.c0; replace q_a1 := x_a.c1; replace f_a0 := x_a.fr 0; replace f_a1 := x_a.fr 1; replace q_a2 := x_a.c2; replace f_a2 := x_a.fr 2
  replace q_b0 := x_b.c0; replace q_b1 := x_b.c1; replace f_b0 := x_b.fr 0; replace f_b1 := x_b.fr 1; replace q_b2 := x_b.c2; replace f_b2 := x_b.fr 2
  replace q_r0 := x_r.c0; replace q_r1 := x_r.c1; replace f_r0 := x_r.fr 0; replace f_r1 := x_r.fr 1; replace q_r2 := x_r.c2; replace f_r2 := x_r.fr 2
  clear q_a0 q_a1 f_a0 f_a1 q_a2 f_a2 q_b0 q_b1 f_b0 f_b1 q_b2 f_b2 q_r0 q_r1 f_r0 f_r1 q_r2 f_r2
  generalize (v2.alloc (.cells #[.bool (ngB (alP X e f)), .slice A5 n5 c5] 24)).alloc (.cells #[.bool (ngB (alQ Y e f)), .slice A6 n6 c6] 24) = v3 at *
  have q_a0 := x_a.c0; have q_a1 := x_a.c1; have f_a0 := x_a.fr 0; have f_a1 := x_a.fr 1; have q_a2 := x_a.c2; have f_a2 := x_a.fr 2
  have q_b0 := x_b.c0; have q_b1 := x_b.c1; have f_b0 := x_b.fr 0; have f_b1 := x_b.fr 1; have q_b2 := x_b.c2; have f_b2 := x_b.fr 2
  have q_r0 := x_r.c0; have q_r1 := x_r.c1; have f_r0 := x_r.fr 0; have f_r1 := x_r.fr 1; have q_r2 := x_r.c2; have f_r2 := x_r.fr 2
  have q_x0 := x_x.c0; have q_x1 := x_x.c1; have f_x0 := x_x.fr 0; have f_x1 := x_x.fr 1
  have q_y0 := x_y.c0; have q_y1 := x_y.c1; have f_y0 := x_y.fr 0; have f_y1 := x_y.fr 1
  skip
  with_reducible refine (ZSub_any z5.zr z6.zr k (by omega) (by omega) (by omega)).mono ?_
  rintro e v4 ⟨A7, n7, c7, rfl, z7, hb1⟩
  replace x_a := x_a.keep hb1
  replace x_b := x_b.keep hb1
  replace x_r := x_r.keep hb1
  replace x_x := x_x.keep hb1
  replace x_y := x_y.keep hb1
  replace hT := hT.keep hb1
  replace z5 := z5.keep hb1
  replace z6 := z6.keep hb1
  replace hb := bthen hb hb1
  clear hb1
  replace q_a0 := x_a.c0; replace q_a1 := x_a.c1; replace f_a0 := x_a.fr 0; replace f_a1 := x_a.fr 1; replace q_a2 := x_a.c2; replace f_a2 := x_a.fr 2
  replace q_b0 := x_b.c0; replace q_b1 := x_b.c1; replace f_b0 := x_b.fr 0; replace f_b1 := x_b.fr 1; replace q_b2 := x_b.c2; replace f_b2 := x_b.fr 2
  replace q_r0 := x_r.c0; replace q_r1 := x_r.c1; replace f_r0 := x_r.fr 0; replace f_r1 := x_r.fr 1; replace q_r2 := x_r.c2; replace f_r2 := x_r.fr 2
  replace q_x0 := x_x.c0; replace q_x1 := x_x.c1; replace f_x0 := x_x.fr 0; replace f_x1 := x_x.fr 1
  replace q_y0 := x_y.c0; replace q_y1 := x_y.c1; replace f_y0 := x_y.fr 0; replace f_y1 := x_y.fr 1
  go_wp2_with fail
  with_reducible refine (result_any z7.zr hT (alE e f) (by omega) (k + 1) (by omega) (by omega)).mono ?_
  rintro e v5 ⟨A8, n8, c8, rfl, z8, hb1⟩
  replace x_a := x_a.keep hb1
  replace x_b := x_b.keep hb1
  replace x_r := x_r.keep hb1
  replace x_x := x_x.keep hb1
  replace x_y := x_y.keep hb1
  replace hT := hT.keep hb1
  replace z5 := z5.keep hb1
  replace z6 := z6.keep hb1
  replace z7 := z7.keep hb1
  replace hb := bthen hb hb1
  clear hb1
  replace q_a0 := x_a.c0; replace q_a1 := x_a.c1; replace f_a0 := x_a.fr 0; replace f_a1 := x_a.fr 1; replace q_a2 := x_a.c2; replace f_a2 := x_a.fr 2
  replace q_b0 := x_b.c0; replace q_b1 := x_b.c1; replace f_b0 := x_b.fr 0; replace f_b1 := x_b.fr 1; replace q_b2 := x_b.c2; replace f_b2 := x_b.fr 2
  replace q_r0 := x_r.c0; replace q_r1 := x_r.c1; replace f_r0 := x_r.fr 0; replace f_r1 := x_r.fr 1; replace q_r2 := x_r.c2; replace f_r2 := x_r.fr 2
  replace q_x0 := x_x.c0; replace q_x1 := x_x.c1; replace f_x0 := x_x.fr 0; replace f_x1 := x_x.fr 1
  replace q_y0 := x_y.c0; replace q_y1 := x_y.c1; replace f_y0 := x_y.fr 0; replace f_y1 := x_y.fr 1
  go_wp2
  replace x_a := x_a.asideD (b' := (ngB (od (alP X e f - alQ Y e f)))) (A' := A8) (n' := n8) (c' := c8) (e' := (nE (alP X e f - alQ Y e f) (alE e f))) (g := w.heap.size + 1 + 1) (by omega)
  replace x_b := x_b.asideD (b' := (ngB (od (alP X e f - alQ Y e f)))) (A' := A8) (n' := n8) (c' := c8) (e' := (nE (alP X e f - alQ Y e f) (alE e f))) (g := w.heap.size + 1 + 1) (by omega)
  replace x_x := x_x.asideD (b' := (ngB (od (alP X e f - alQ Y e f)))) (A' := A8) (n' := n8) (c' := c8) (e' := (nE (alP X e f - alQ Y e f) (alE e f))) (g := w.heap.size + 1 + 1) (by omega)
  replace x_y := x_y.asideD (b' := (ngB (od (alP X e f - alQ Y e f)))) (A' := A8) (n' := n8) (c' := c8) (e' := (nE (alP X e f - alQ Y e f) (alE e f))) (g := w.heap.size + 1 + 1) (by omega)
  replace hT := hT.putD (b' := (ngB (od (alP X e f - alQ Y e f)))) (A' := A8) (n' := n8) (c' := c8) (e' := (nE (alP X e f - alQ Y e f) (alE e f))) x_r
  replace z5 := z5.putD (b' := (ngB (od (alP X e f - alQ Y e f)))) (A' := A8) (n' := n8) (c' := c8) (e' := (nE (alP X e f - alQ Y e f) (alE e f))) x_r
  replace z6 := z6.putD (b' := (ngB (od (alP X e f - alQ Y e f)))) (A' := A8) (n' := n8) (c' := c8) (e' := (nE (alP X e f - alQ Y e f) (alE e f))) x_r
  replace z7 := z7.putD (b' := (ngB (od (alP X e f - alQ Y e f)))) (A' := A8) (n' := n8) (c' := c8) (e' := (nE (alP X e f - alQ Y e f) (alE e f))) x_r
  replace z8 := z8.putD (b' := (ngB (od (alP X e f - alQ Y e f)))) (A' := A8) (n' := n8) (c' := c8) (e' := (nE (alP X e f - alQ Y e f) (alE e f))) x_r
  replace hb := put_belowD (g := w.heap.size + 1 + 1) hb (by omega) (.bool (ngB (od (alP X e f - alQ Y e f)))) (.slice A8 n8 c8) (.int .i64 (nE (alP X e f - alQ Y e f) (alE e f)))
  replace x_r := x_r.put (ngB (od (alP X e f - alQ Y e f))) A8 n8 c8 (nE (alP X e f - alQ Y e f) (alE e f))
  clear q_a0 q_a1 f_a0 f_a1 q_a2 f_a2 q_b0 q_b1 f_b0 f_b1 q_b2 f_b2 q_r0 q_r1 f_r0 f_r1 q_r2 f_r2 q_x0 q_x1 f_x0 f_x1 q_y0 q_y1 f_y0 f_y1
  generalize ((v5.setCell ⟨w.heap.size + 1 + 1, 0, none⟩ (.bool (ngB (od (alP X e f - alQ Y e f))))).setCell ⟨w.heap.size + 1 + 1, 1, none⟩ (.slice A8 n8 c8)).setCell ⟨w.heap.size + 1 + 1, 2, none⟩ (.int .i64 (nE (alP X e f - alQ Y e f) (alE e f))) = v6 at *
  have q_a0 := x_a.c0; have q_a1 := x_a.c1; have f_a0 := x_a.fr 0; have f_a1 := x_a.fr 1; have q_a2 := x_a.c2; have f_a2 := x_a.fr 2
  have q_b0 := x_b.c0; have q_b1 := x_b.c1; have f_b0 := x_b.fr 0; have f_b1 := x_b.fr 1; have q_b2 := x_b.c2; have f_b2 := x_b.fr 2
  have q_r0 := x_r.c0; have q_r1 := x_r.c1; have f_r0 := x_r.fr 0; have f_r1 := x_r.fr 1; have q_r2 := x_r.c2; have f_r2 := x_r.fr 2
  have q_x0 := x_x.c0; have q_x1 := x_x.c1; have f_x0 := x_x.fr 0; have f_x1 := x_x.fr 1
  have q_y0 := x_y.c0; have q_y1 := x_y.c1; have f_y0 := x_y.fr 0; have f_y1 := x_y.fr 1
  refine bodyPost_ret (v := .agg #[.bool (ngB (od (alP X e f - alQ Y e f))), .slice A8 n8 c8, .int .i64 (nE (alP X e f - alQ Y e f) (alE e f))]) (by simp [results, Tryd.results24, go_sem, q_r0, q_r1, q_r2]) rfl ?_
  exact ⟨_, _, _, rfl, z8, hb⟩

set_option maxRecDepth 100000 in
set_option maxHeartbeats 4000000 in
theorem DMul_any {b b2 : Bool} {A A2 : Option Addr} {n c n2 c2 : Nat} {X Y e f : Int} {j j2 : Nat} {w : World} (h : Zr w b A n c X j) (h2 : Zr w b2 A2 n2 c2 Y j2) (hT : Tab w) (k : Nat) (hk : j + j2 ≤ k) (hj : k ≤ 100000) :
    Calls Tryd.prog 26 #[.agg #[.bool b, .slice A n c, .int .i64 e], .agg #[.bool b2, .slice A2 n2 c2, .int .i64 f]] w (OutD w (od (cM X e * cM Y f)) (nE (cM X e * cM Y f) (cE e + cE f)) (k + 1)) := by
  have hc := cE_in e
  have hc2 := cE_in f
  have hwr : IntKind.i64.wrap (cE e + cE f) = cE e + cE f := IntWalk.i64_in _ ⟨by omega, by omega⟩
  go_enter Tryd.func26, Tryd.ntmps26
  go_wp2_with fail
  have x_a : Dx (w.alloc (.cells #[.bool b, .slice A n c, .int .i64 e] 26)) (w.heap.size) b A n c e := by have := Dx.new w b A n c e; simpa using this
  replace x_a := x_a.alloc (.cells #[.bool b2, .slice A2 n2 c2, .int .i64 f] 26)
  have x_b : Dx ((w.alloc (.cells #[.bool b, .slice A n c, .int .i64 e] 26)).alloc (.cells #[.bool b2, .slice A2 n2 c2, .int .i64 f] 26)) (w.heap.size + 1) b2 A2 n2 c2 f := by have := Dx.new (w.alloc (.cells #[.bool b, .slice A n c, .int .i64 e] 26)) b2 A2 n2 c2 f; simpa using this
  replace x_a := x_a.alloc (.cells #[.bool false, .slice none 0 0, .int .i64 0] 26)
  replace x_b := x_b.alloc (.cells #[.bool false, .slice none 0 0, .int .i64 0] 26)
  have x_r : Dx (((w.alloc (.cells #[.bool b, .slice A n c, .int .i64 e] 26)).alloc (.cells #[.bool b2, .slice A2 n2 c2, .int .i64 f] 26)).alloc (.cells #[.bool false, .slice none 0 0, .int .i64 0] 26)) (w.heap.size + 1 + 1) false none 0 0 0 := by have := Dx.new ((w.alloc (.cells #[.bool b, .slice A n c, .int .i64 e] 26)).alloc (.cells #[.bool b2, .slice A2 n2 c2, .int .i64 f] 26)) false none 0 0 0; simpa using this
  have hb : Below w.heap.size w (((w.alloc (.cells #[.bool b, .slice A n c, .int .i64 e] 26)).alloc (.cells #[.bool b2, .slice A2 n2 c2, .int .i64 f] 26)).alloc (.cells #[.bool false, .slice none 0 0, .int .i64 0] 26)) := (Below.alloc (Below.alloc (Below.alloc (Below.refl w.heap.size w) (by simp) (.cells #[.bool b, .slice A n c, .int .i64 e] 26)) (by simp) (.cells #[.bool b2, .slice A2 n2 c2, .int .i64 f] 26)) (by simp; omega) (.cells #[.bool false, .slice none 0 0, .int .i64 0] 26))
  generalize ((w.alloc (.cells #[.bool b, .slice A n c, .int .i64 e] 26)).alloc (.cells #[.bool b2, .slice A2 n2 c2, .int .i64 f] 26)).alloc (.cells #[.bool false, .slice none 0 0, .int .i64 0] 26) = v1 at *
  replace h := h.keep hb
  replace h2 := h2.keep hb
  replace hT := hT.keep hb
  have q_a0 := x_a.c0; have q_a1 := x_a.c1; have f_a0 := x_a.fr 0; have f_a1 := x_a.fr 1; have q_a2 := x_a.c2; have f_a2 := x_a.fr 2
  have q_b0 := x_b.c0; have q_b1 := x_b.c1; have f_b0 := x_b.fr 0; have f_b1 := x_b.fr 1; have q_b2 := x_b.c2; have f_b2 := x_b.fr 2
  have q_r0 := x_r.c0; have q_r1 := x_r.c1; have f_r0 := x_r.fr 0; have f_r1 := x_r.fr 1; have q_r2 := x_r.c2; have f_r2 := x_r.fr 2
  go_wp2_with fail
  go_region_with ((first | (go_at_call 45; (with_reducible refine (read_any h.drw).mono ?_); rintro e v2 ⟨b1, A1, n1, c1, rfl, zc, hb1⟩; replace hb1 := undrew hb1; replace x_a := x_a.keep hb1; replace x_b := x_b.keep hb1; replace x_r := x_r.keep hb1; replace h := h.keep hb1; replace h2 := h2.keep hb1; replace hT := hT.keep hb1; replace hb := bthen hb hb1; clear hb1; replace q_a0 := x_a.c0; replace q_a1 := x_a.c1; replace f_a0 := x_a.fr 0; replace f_a1 := x_a.fr 1; replace q_a2 := x_a.c2; replace f_a2 := x_a.fr 2; replace q_b0 := x_b.c0; replace q_b1 := x_b.c1; replace f_b0 := x_b.fr 0; replace f_b1 := x_b.fr 1; replace q_b2 := x_b.c2; replace f_b2 := x_b.fr 2; replace q_r0 := x_r.c0; replace q_r1 := x_r.c1; replace f_r0 := x_r.fr 0; replace f_r1 := x_r.fr 1; replace q_r2 := x_r.c2; replace f_r2 := x_r.fr 2) | (go_at_call 45; (with_reducible refine (read_any h2).mono ?_); rintro e v3 ⟨b3, A3, n3, c3, rfl, zd, hb1⟩; replace x_a := x_a.keep hb1; replace x_b := x_b.keep hb1; replace x_r := x_r.keep hb1; replace h := h.keep hb1; replace h2 := h2.keep hb1; replace hT := hT.keep hb1; replace zc := zc.keep hb1; replace hb := bthen hb hb1; clear hb1; replace q_a0 := x_a.c0; replace q_a1 := x_a.c1; replace f_a0 := x_a.fr 0; replace f_a1 := x_a.fr 1; replace q_a2 := x_a.c2; replace f_a2 := x_a.fr 2; replace q_b0 := x_b.c0; replace q_b1 := x_b.c1; replace f_b0 := x_b.fr 0; replace f_b1 := x_b.fr 1; replace q_b2 := x_b.c2; replace f_b2 := x_b.fr 2; replace q_r0 := x_r.c0; replace q_r1 := x_r.c1; replace f_r0 := x_r.fr 0; replace f_r1 := x_r.fr 1; replace q_r2 := x_r.c2; replace f_r2 := x_r.fr 2)))
  all_goals
    skip
    replace x_b := x_b.asideD (b' := b1) (A' := A1) (n' := n1) (c' := c1) (e' := (cE e)) (g := w.heap.size) (by omega)
    replace x_r := x_r.asideD (b' := b1) (A' := A1) (n' := n1) (c' := c1) (e' := (cE e)) (g := w.heap.size) (by omega)
    replace h := h.putD (b' := b1) (A' := A1) (n' := n1) (c' := c1) (e' := (cE e)) x_a
    replace h2 := h2.putD (b' := b1) (A' := A1) (n' := n1) (c' := c1) (e' := (cE e)) x_a
    replace hT := hT.putD (b' := b1) (A' := A1) (n' := n1) (c' := c1) (e' := (cE e)) x_a
    replace zc := zc.putD (b' := b1) (A' := A1) (n' := n1) (c' := c1) (e' := (cE e)) x_a
    replace zd := zd.putD (b' := b1) (A' := A1) (n' := n1) (c' := c1) (e' := (cE e)) x_a
    replace hb := put_belowD (g := w.heap.size) hb (by omega) (.bool b1) (.slice A1 n1 c1) (.int .i64 (cE e))
    replace x_a := x_a.put b1 A1 n1 c1 (cE e)
    clear q_a0 q_a1 f_a0 f_a1 q_a2 f_a2 q_b0 q_b1 f_b0 f_b1 q_b2 f_b2 q_r0 q_r1 f_r0 f_r1 q_r2 f_r2
    generalize ((v3.setCell ⟨w.heap.size, 0, none⟩ (.bool b1)).setCell ⟨w.heap.size, 1, none⟩ (.slice A1 n1 c1)).setCell ⟨w.heap.size, 2, none⟩ (.int .i64 (cE e)) = v4 at *
    have q_a0 := x_a.c0; have q_a1 := x_a.c1; have f_a0 := x_a.fr 0; have f_a1 := x_a.fr 1; have q_a2 := x_a.c2; have f_a2 := x_a.fr 2
    have q_b0 := x_b.c0; have q_b1 := x_b.c1; have f_b0 := x_b.fr 0; have f_b1 := x_b.fr 1; have q_b2 := x_b.c2; have f_b2 := x_b.fr 2
    have q_r0 := x_r.c0; have q_r1 := x_r.c1; have f_r0 := x_r.fr 0; have f_r1 := x_r.fr 1; have q_r2 := x_r.c2; have f_r2 := x_r.fr 2
    replace x_a := x_a.asideD (b' := b3) (A' := A3) (n' := n3) (c' := c3) (e' := (cE f)) (g := w.heap.size + 1) (by omega)
    replace x_r := x_r.asideD (b' := b3) (A' := A3) (n' := n3) (c' := c3) (e' := (cE f)) (g := w.heap.size + 1) (by omega)
    replace h := h.putD (b' := b3) (A' := A3) (n' := n3) (c' := c3) (e' := (cE f)) x_b
    replace h2 := h2.putD (b' := b3) (A' := A3) (n' := n3) (c' := c3) (e' := (cE f)) x_b
    replace hT := hT.putD (b' := b3) (A' := A3) (n' := n3) (c' := c3) (e' := (cE f)) x_b
    replace zc := zc.putD (b' := b3) (A' := A3) (n' := n3) (c' := c3) (e' := (cE f)) x_b
    replace zd := zd.putD (b' := b3) (A' := A3) (n' := n3) (c' := c3) (e' := (cE f)) x_b
    replace hb := put_belowD (g := w.heap.size + 1) hb (by omega) (.bool b3) (.slice A3 n3 c3) (.int .i64 (cE f))
    replace x_b := x_b.put b3 A3 n3 c3 (cE f)
    clear q_a0 q_a1 f_a0 f_a1 q_a2 f_a2 q_b0 q_b1 f_b0 f_b1 q_b2 f_b2 q_r0 q_r1 f_r0 f_r1 q_r2 f_r2
    generalize ((v4.setCell ⟨w.heap.size + 1, 0, none⟩ (.bool b3)).setCell ⟨w.heap.size + 1, 1, none⟩ (.slice A3 n3 c3)).setCell ⟨w.heap.size + 1, 2, none⟩ (.int .i64 (cE f)) = v5 at *
    have q_a0 := x_a.c0; have q_a1 := x_a.c1; have f_a0 := x_a.fr 0; have f_a1 := x_a.fr 1; have q_a2 := x_a.c2; have f_a2 := x_a.fr 2
    have q_b0 := x_b.c0; have q_b1 := x_b.c1; have f_b0 := x_b.fr 0; have f_b1 := x_b.fr 1; have q_b2 := x_b.c2; have f_b2 := x_b.fr 2
    have q_r0 := x_r.c0; have q_r1 := x_r.c1; have f_r0 := x_r.fr 0; have f_r1 := x_r.fr 1; have q_r2 := x_r.c2; have f_r2 := x_r.fr 2
    clear h h2
    go_wp2_with fail
    go_region_held3 (fun w' => w'.cell? ⟨w.heap.size, 0, none⟩ = some (.bool b1) ∧ w'.cell? ⟨w.heap.size, 1, none⟩ = some (.slice A1 n1 c1) ∧ w'.cell? ⟨w.heap.size, 2, none⟩ = some (.int .i64 (cE e)) ∧ w'.cell? ⟨w.heap.size + 1, 0, none⟩ = some (.bool b3) ∧ w'.cell? ⟨w.heap.size + 1, 1, none⟩ = some (.slice A3 n3 c3) ∧ w'.cell? ⟨w.heap.size + 1, 2, none⟩ = some (.int .i64 (cE f)))
      (first | (with_reducible exact ⟨x_a.c0, x_a.c1, x_a.c2, x_b.c0, x_b.c1, x_b.c2⟩) | (with_reducible exact ⟨(x_a.aside (by omega)).c0, (x_a.aside (by omega)).c1, (x_a.aside (by omega)).c2, (x_b.aside (by omega)).c0, (x_b.aside (by omega)).c1, (x_b.aside (by omega)).c2⟩) | (with_reducible exact ⟨((x_a.aside (by omega)).aside (by omega)).c0, ((x_a.aside (by omega)).aside (by omega)).c1, ((x_a.aside (by omega)).aside (by omega)).c2, ((x_b.aside (by omega)).aside (by omega)).c0, ((x_b.aside (by omega)).aside (by omega)).c1, ((x_b.aside (by omega)).aside (by omega)).c2⟩) | (with_reducible exact ⟨(x_a.asideD (by omega)).c0, (x_a.asideD (by omega)).c1, (x_a.asideD (by omega)).c2, (x_b.asideD (by omega)).c0, (x_b.asideD (by omega)).c1, (x_b.asideD (by omega)).c2⟩) | (with_reducible exact ⟨((x_a.asideD (by omega)).asideD (by omega)).c0, ((x_a.asideD (by omega)).asideD (by omega)).c1, ((x_a.asideD (by omega)).asideD (by omega)).c2, ((x_b.asideD (by omega)).asideD (by omega)).c0, ((x_b.asideD (by omega)).asideD (by omega)).c1, ((x_b.asideD (by omega)).asideD (by omega)).c2⟩) | go_keep)
      (first | (go_at_call 57; (with_reducible refine (ZMul_any zc.drw zd.drw k hk (by omega)).mono ?_); rintro e v6 ⟨A7, n7, c7, rfl, z7, hb1⟩; replace hb1 := undrew hb1; replace x_a := x_a.keep hb1; replace x_b := x_b.keep hb1; replace x_r := x_r.keep hb1; replace hT := hT.keep hb1; replace zc := zc.keep hb1; replace zd := zd.keep hb1; replace hb := bthen hb hb1; clear hb1; replace q_a0 := x_a.c0; replace q_a1 := x_a.c1; replace f_a0 := x_a.fr 0; replace f_a1 := x_a.fr 1; replace q_a2 := x_a.c2; replace f_a2 := x_a.fr 2; replace q_b0 := x_b.c0; replace q_b1 := x_b.c1; replace f_b0 := x_b.fr 0; replace f_b1 := x_b.fr 1; replace q_b2 := x_b.c2; replace f_b2 := x_b.fr 2; replace q_r0 := x_r.c0; replace q_r1 := x_r.c1; replace f_r0 := x_r.fr 0; replace f_r1 := x_r.fr 1; replace q_r2 := x_r.c2; replace f_r2 := x_r.fr 2) | (go_at_call 46; (with_reducible refine (result_any z7.zr hT (cE e + cE f) (by omega) (k + 1) (by omega) (by omega)).mono ?_); rintro e v7 ⟨A8, n8, c8, rfl, z8, hb1⟩; replace x_a := x_a.keep hb1; replace x_b := x_b.keep hb1; replace x_r := x_r.keep hb1; replace hT := hT.keep hb1; replace zc := zc.keep hb1; replace zd := zd.keep hb1; replace z7 := z7.keep hb1; replace hb := bthen hb hb1; clear hb1; replace q_a0 := x_a.c0; replace q_a1 := x_a.c1; replace f_a0 := x_a.fr 0; replace f_a1 := x_a.fr 1; replace q_a2 := x_a.c2; replace f_a2 := x_a.fr 2; replace q_b0 := x_b.c0; replace q_b1 := x_b.c1; replace f_b0 := x_b.fr 0; replace f_b1 := x_b.fr 1; replace q_b2 := x_b.c2; replace f_b2 := x_b.fr 2; replace q_r0 := x_r.c0; replace q_r1 := x_r.c1; replace f_r0 := x_r.fr 0; replace f_r1 := x_r.fr 1; replace q_r2 := x_r.c2; replace f_r2 := x_r.fr 2))
    go_wp2
    replace x_a := x_a.asideD (b' := (ngB (od (cM X e * cM Y f)))) (A' := A8) (n' := n8) (c' := c8) (e' := (nE (cM X e * cM Y f) (cE e + cE f))) (g := w.heap.size + 1 + 1) (by omega)
    replace x_b := x_b.asideD (b' := (ngB (od (cM X e * cM Y f)))) (A' := A8) (n' := n8) (c' := c8) (e' := (nE (cM X e * cM Y f) (cE e + cE f))) (g := w.heap.size + 1 + 1) (by omega)
    replace hT := hT.putD (b' := (ngB (od (cM X e * cM Y f)))) (A' := A8) (n' := n8) (c' := c8) (e' := (nE (cM X e * cM Y f) (cE e + cE f))) x_r
    replace zc := zc.putD (b' := (ngB (od (cM X e * cM Y f)))) (A' := A8) (n' := n8) (c' := c8) (e' := (nE (cM X e * cM Y f) (cE e + cE f))) x_r
    replace zd := zd.putD (b' := (ngB (od (cM X e * cM Y f)))) (A' := A8) (n' := n8) (c' := c8) (e' := (nE (cM X e * cM Y f) (cE e + cE f))) x_r
    replace z7 := z7.putD (b' := (ngB (od (cM X e * cM Y f)))) (A' := A8) (n' := n8) (c' := c8) (e' := (nE (cM X e * cM Y f) (cE e + cE f))) x_r
    replace z8 := z8.putD (b' := (ngB (od (cM X e * cM Y f)))) (A' := A8) (n' := n8) (c' := c8) (e' := (nE (cM X e * cM Y f) (cE e + cE f))) x_r
    replace hb := put_belowD (g := w.heap.size + 1 + 1) hb (by omega) (.bool (ngB (od (cM X e * cM Y f)))) (.slice A8 n8 c8) (.int .i64 (nE (cM X e * cM Y f) (cE e + cE f)))
    replace x_r := x_r.put (ngB (od (cM X e * cM Y f))) A8 n8 c8 (nE (cM X e * cM Y f) (cE e + cE f))
    clear q_a0 q_a1 f_a0 f_a1 q_a2 f_a2 q_b0 q_b1 f_b0 f_b1 q_b2 f_b2 q_r0 q_r1 f_r0 f_r1 q_r2 f_r2
    generalize ((v7.setCell ⟨w.heap.size + 1 + 1, 0, none⟩ (.bool (ngB (od (cM X e * cM Y f))))).setCell ⟨w.heap.size + 1 + 1, 1, none⟩ (.slice A8 n8 c8)).setCell ⟨w.heap.size + 1 + 1, 2, none⟩ (.int .i64 (nE (cM X e * cM Y f) (cE e + cE f))) = v8 at *
    have q_a0 := x_a.c0; have q_a1 := x_a.c1; have f_a0 := x_a.fr 0; have f_a1 := x_a.fr 1; have q_a2 := x_a.c2; have f_a2 := x_a.fr 2
    have q_b0 := x_b.c0; have q_b1 := x_b.c1; have f_b0 := x_b.fr 0; have f_b1 := x_b.fr 1; have q_b2 := x_b.c2; have f_b2 := x_b.fr 2
    have q_r0 := x_r.c0; have q_r1 := x_r.c1; have f_r0 := x_r.fr 0; have f_r1 := x_r.fr 1; have q_r2 := x_r.c2; have f_r2 := x_r.fr 2
    refine bodyPost_ret (v := .agg #[.bool (ngB (od (cM X e * cM Y f))), .slice A8 n8 c8, .int .i64 (nE (cM X e * cM Y f) (cE e + cE f))]) (by simp [results, Tryd.results26, go_sem, q_r0, q_r1, q_r2]) rfl ?_
    exact ⟨_, _, _, rfl, z8, hb⟩

end Go.Proofs.YtcoidcbbdibnaaaDoor
