/-
  The law BallHolds, as a call.
-/
import Derived.Test.YtiigacddjihokaaDoorLsome
import Derived.Test.YtiigacddjihokaaDoorLhold
import Derived.Test.YtiigacddjihokaaDoorLsum2
import Derived.Test.YtiigacddjihokaaDoorLshown
namespace Go.Proofs.YtiigacddjihokaaDoor
open Go.RowKit
set_option linter.unusedVariables false

set_option maxRecDepth 100000 in
set_option maxHeartbeats 32000000 in
theorem BallHolds_any {b b2 b3 b4 : Bool} {A A2 A3 A4 : Option Addr} {n c n2 c2 n3 c3 n4 c4 : Nat} {q r : Int} {l0 l1 l2 l3 : List Int} {w : World} (hT : Tab w) (g0 : Rd w w.heap.size A n c l0) (g1 : Rd w w.heap.size A2 n2 c2 l1) (g2 : Rd w w.heap.size A3 n3 c3 l2) (g3 : Rd w w.heap.size A4 n4 c4 l3) (p : Int) (hp : -9223372036854775808 ≤ p ∧ p ≤ 9223372036854775807) (i1 : Int) (hi1 : -9223372036854775808 ≤ i1 ∧ i1 ≤ 9223372036854775807) (i2 : Int) (hi2 : -9223372036854775808 ≤ i2 ∧ i2 ≤ 9223372036854775807) :
    Calls Tryd.prog 3 #[.agg #[.bool b, .slice A n c, .bool b2, .slice A2 n2 c2, .int .i64 q], .agg #[.bool b3, .slice A3 n3 c3, .bool b4, .slice A4 n4 c4, .int .i64 r], .int .i64 p, .int .i64 i1, .int .i64 i2] w fun e w' => e = .returned (.bool true) ∧ Below w.heap.size w w' := by
  clear hp hi1 hi2
  go_enter Tryd.func3, Tryd.ntmps3
  go_wp2_with fail
  have x_a : Lx (w.alloc (.cells #[.bool b, .slice A n c, .bool b2, .slice A2 n2 c2, .int .i64 q] 26)) (w.heap.size) b A n c b2 A2 n2 c2 q := by have := Lx.new w b A n c b2 A2 n2 c2 q; simpa using this
  replace x_a := x_a.alloc (.cells #[.bool b3, .slice A3 n3 c3, .bool b4, .slice A4 n4 c4, .int .i64 r] 26)
  have x_b : Lx ((w.alloc (.cells #[.bool b, .slice A n c, .bool b2, .slice A2 n2 c2, .int .i64 q] 26)).alloc (.cells #[.bool b3, .slice A3 n3 c3, .bool b4, .slice A4 n4 c4, .int .i64 r] 26)) (w.heap.size + 1) b3 A3 n3 c3 b4 A4 n4 c4 r := by have := Lx.new (w.alloc (.cells #[.bool b, .slice A n c, .bool b2, .slice A2 n2 c2, .int .i64 q] 26)) b3 A3 n3 c3 b4 A4 n4 c4 r; simpa using this
  have hb : Below w.heap.size w ((w.alloc (.cells #[.bool b, .slice A n c, .bool b2, .slice A2 n2 c2, .int .i64 q] 26)).alloc (.cells #[.bool b3, .slice A3 n3 c3, .bool b4, .slice A4 n4 c4, .int .i64 r] 26)) := (Below.alloc (Below.alloc (Below.refl w.heap.size w) (by simp) (.cells #[.bool b, .slice A n c, .bool b2, .slice A2 n2 c2, .int .i64 q] 26)) (by simp) (.cells #[.bool b3, .slice A3 n3 c3, .bool b4, .slice A4 n4 c4, .int .i64 r] 26))
  generalize (w.alloc (.cells #[.bool b, .slice A n c, .bool b2, .slice A2 n2 c2, .int .i64 q] 26)).alloc (.cells #[.bool b3, .slice A3 n3 c3, .bool b4, .slice A4 n4 c4, .int .i64 r] 26) = v1 at *
  replace g0 := g0.go hb
  replace g1 := g1.go hb
  replace g2 := g2.go hb
  replace g3 := g3.go hb
  replace hT := hT.keep hb
  obtain ⟨q_a0, f_a0, q_a1, f_a1, q_a2, f_a2, q_a3, f_a3, q_a4, f_a4⟩ := x_a.al
  obtain ⟨q_b0, f_b0, q_b1, f_b1, q_b2, f_b2, q_b3, f_b3, q_b4, f_b4⟩ := x_b.al
  go_wp2_with fail
  with_reducible refine (Lshown_any hT).mono ?_
  rintro e v2 ⟨rfl, hb1⟩
  replace x_a := x_a.keep hb1
  replace x_b := x_b.keep hb1
  replace g0 := g0.go hb1
  replace g1 := g1.go hb1
  replace g2 := g2.go hb1
  replace g3 := g3.go hb1
  replace hT := hT.keep hb1
  replace hb := bthen hb hb1
  clear hb1
  clear q_a0 f_a0 q_a1 f_a1 q_a2 f_a2 q_a3 f_a3 q_a4 f_a4; obtain ⟨q_a0, f_a0, q_a1, f_a1, q_a2, f_a2, q_a3, f_a3, q_a4, f_a4⟩ := x_a.al
  clear q_b0 f_b0 q_b1 f_b1 q_b2 f_b2 q_b3 f_b3 q_b4 f_b4; obtain ⟨q_b0, f_b0, q_b1, f_b1, q_b2, f_b2, q_b3, f_b3, q_b4, f_b4⟩ := x_b.al
  go_wp2_with fail
  with_reducible refine (right_any g0 g1 p).mono ?_
  rintro e v3 ⟨d1, E1, m1, k1, d2, E2, m2, k2, X, Y, rfl, za, zb, hXY, hb1⟩
  replace x_a := x_a.keep hb1
  replace x_b := x_b.keep hb1
  replace g0 := g0.go hb1
  replace g1 := g1.go hb1
  replace g2 := g2.go hb1
  replace g3 := g3.go hb1
  replace hT := hT.keep hb1
  replace hb := bthen hb hb1
  clear hb1
  clear q_a0 f_a0 q_a1 f_a1 q_a2 f_a2 q_a3 f_a3 q_a4 f_a4; obtain ⟨q_a0, f_a0, q_a1, f_a1, q_a2, f_a2, q_a3, f_a3, q_a4, f_a4⟩ := x_a.al
  clear q_b0 f_b0 q_b1 f_b1 q_b2 f_b2 q_b3 f_b3 q_b4 f_b4; obtain ⟨q_b0, f_b0, q_b1, f_b1, q_b2, f_b2, q_b3, f_b3, q_b4, f_b4⟩ := x_b.al
  clear g0 g1
  go_wp2_with fail
  replace x_b := x_b.asideL (b' := d1) (A' := E1) (n' := m1) (c' := k1) (p' := d2) (B' := E2) (m' := m2) (d' := k2) (e' := (p % 256)) (g := w.heap.size) (by omega)
  replace g2 := g2.sputL (b' := d1) (A' := E1) (n' := m1) (c' := k1) (p' := d2) (B' := E2) (m' := m2) (d' := k2) (e' := (p % 256)) x_a
  replace g3 := g3.sputL (b' := d1) (A' := E1) (n' := m1) (c' := k1) (p' := d2) (B' := E2) (m' := m2) (d' := k2) (e' := (p % 256)) x_a
  replace hT := hT.putL (b' := d1) (A' := E1) (n' := m1) (c' := k1) (p' := d2) (B' := E2) (m' := m2) (d' := k2) (e' := (p % 256)) x_a
  replace za := za.putL (b' := d1) (A' := E1) (n' := m1) (c' := k1) (p' := d2) (B' := E2) (m' := m2) (d' := k2) (e' := (p % 256)) x_a
  replace zb := zb.putL (b' := d1) (A' := E1) (n' := m1) (c' := k1) (p' := d2) (B' := E2) (m' := m2) (d' := k2) (e' := (p % 256)) x_a
  replace hb := put_belowL (g := w.heap.size) hb (by omega) (.bool d1) (.slice E1 m1 k1) (.bool d2) (.slice E2 m2 k2) (.int .i64 (p % 256))
  replace x_a := x_a.put d1 E1 m1 k1 d2 E2 m2 k2 (p % 256)
  clear q_a0 f_a0 q_a1 f_a1 q_a2 f_a2 q_a3 f_a3 q_a4 f_a4 q_b0 f_b0 q_b1 f_b1 q_b2 f_b2 q_b3 f_b3 q_b4 f_b4
  generalize ((((v3.setCell ⟨w.heap.size, 0, none⟩ (.bool d1)).setCell ⟨w.heap.size, 1, none⟩ (.slice E1 m1 k1)).setCell ⟨w.heap.size, 2, none⟩ (.bool d2)).setCell ⟨w.heap.size, 3, none⟩ (.slice E2 m2 k2)).setCell ⟨w.heap.size, 4, none⟩ (.int .i64 (p % 256)) = v4 at *
  obtain ⟨q_a0, f_a0, q_a1, f_a1, q_a2, f_a2, q_a3, f_a3, q_a4, f_a4⟩ := x_a.al
  obtain ⟨q_b0, f_b0, q_b1, f_b1, q_b2, f_b2, q_b3, f_b3, q_b4, f_b4⟩ := x_b.al
  with_reducible refine (right_any g2 g3 p).mono ?_
  rintro e v5 ⟨d3, E3, m3, k3, d4, E4, m4, k4, U, V, rfl, zc, zd, hUV, hb1⟩
  replace x_a := x_a.keep hb1
  replace x_b := x_b.keep hb1
  replace g2 := g2.go hb1
  replace g3 := g3.go hb1
  replace hT := hT.keep hb1
  replace za := za.keep hb1
  replace zb := zb.keep hb1
  replace hb := bthen hb hb1
  clear hb1
  clear q_a0 f_a0 q_a1 f_a1 q_a2 f_a2 q_a3 f_a3 q_a4 f_a4; obtain ⟨q_a0, f_a0, q_a1, f_a1, q_a2, f_a2, q_a3, f_a3, q_a4, f_a4⟩ := x_a.al
  clear q_b0 f_b0 q_b1 f_b1 q_b2 f_b2 q_b3 f_b3 q_b4 f_b4; obtain ⟨q_b0, f_b0, q_b1, f_b1, q_b2, f_b2, q_b3, f_b3, q_b4, f_b4⟩ := x_b.al
  clear g2 g3
  go_wp2_with fail
  replace x_a := x_a.asideL (b' := d3) (A' := E3) (n' := m3) (c' := k3) (p' := d4) (B' := E4) (m' := m4) (d' := k4) (e' := (p % 256)) (g := w.heap.size + 1) (by omega)
  replace hT := hT.putL (b' := d3) (A' := E3) (n' := m3) (c' := k3) (p' := d4) (B' := E4) (m' := m4) (d' := k4) (e' := (p % 256)) x_b
  replace za := za.putL (b' := d3) (A' := E3) (n' := m3) (c' := k3) (p' := d4) (B' := E4) (m' := m4) (d' := k4) (e' := (p % 256)) x_b
  replace zb := zb.putL (b' := d3) (A' := E3) (n' := m3) (c' := k3) (p' := d4) (B' := E4) (m' := m4) (d' := k4) (e' := (p % 256)) x_b
  replace zc := zc.putL (b' := d3) (A' := E3) (n' := m3) (c' := k3) (p' := d4) (B' := E4) (m' := m4) (d' := k4) (e' := (p % 256)) x_b
  replace zd := zd.putL (b' := d3) (A' := E3) (n' := m3) (c' := k3) (p' := d4) (B' := E4) (m' := m4) (d' := k4) (e' := (p % 256)) x_b
  replace hb := put_belowL (g := w.heap.size + 1) hb (by omega) (.bool d3) (.slice E3 m3 k3) (.bool d4) (.slice E4 m4 k4) (.int .i64 (p % 256))
  replace x_b := x_b.put d3 E3 m3 k3 d4 E4 m4 k4 (p % 256)
  clear q_a0 f_a0 q_a1 f_a1 q_a2 f_a2 q_a3 f_a3 q_a4 f_a4 q_b0 f_b0 q_b1 f_b1 q_b2 f_b2 q_b3 f_b3 q_b4 f_b4
  generalize ((((v5.setCell ⟨w.heap.size + 1, 0, none⟩ (.bool d3)).setCell ⟨w.heap.size + 1, 1, none⟩ (.slice E3 m3 k3)).setCell ⟨w.heap.size + 1, 2, none⟩ (.bool d4)).setCell ⟨w.heap.size + 1, 3, none⟩ (.slice E4 m4 k4)).setCell ⟨w.heap.size + 1, 4, none⟩ (.int .i64 (p % 256)) = v6 at *
  obtain ⟨q_a0, f_a0, q_a1, f_a1, q_a2, f_a2, q_a3, f_a3, q_a4, f_a4⟩ := x_a.al
  obtain ⟨q_b0, f_b0, q_b1, f_b1, q_b2, f_b2, q_b3, f_b3, q_b4, f_b4⟩ := x_b.al
  have hq : 0 ≤ p % 256 ∧ p % 256 ≤ 255 := ⟨by omega, by omega⟩
  generalize p % 256 = Q0 at *
  have hq2 : 0 ≤ Q0 ∧ Q0 ≤ 2048 := ⟨hq.1, by omega⟩
  skip
  with_reducible refine (some_any za zb hT ⟨hq2.1, hq2.2, hXY⟩ i1).mono ?_
  rintro e v7 ⟨I, A5, n5, c5, hI1, hI2, rfl, zi, hb1⟩
  replace x_a := x_a.keep hb1
  replace x_b := x_b.keep hb1
  replace hT := hT.keep hb1
  replace za := za.keep hb1
  replace zb := zb.keep hb1
  replace zc := zc.keep hb1
  replace zd := zd.keep hb1
  replace hb := bthen hb hb1
  clear hb1
  clear q_a0 f_a0 q_a1 f_a1 q_a2 f_a2 q_a3 f_a3 q_a4 f_a4; obtain ⟨q_a0, f_a0, q_a1, f_a1, q_a2, f_a2, q_a3, f_a3, q_a4, f_a4⟩ := x_a.al
  clear q_b0 f_b0 q_b1 f_b1 q_b2 f_b2 q_b3 f_b3 q_b4 f_b4; obtain ⟨q_b0, f_b0, q_b1, f_b1, q_b2, f_b2, q_b3, f_b3, q_b4, f_b4⟩ := x_b.al
  have y_a := (x_a.alloc (.cells #[.bool (ngB (od I)), .slice A5 n5 c5, .int .i64 (nE I (-Q0))] 30)); have yq_a0 := y_a.c0; have yq_a1 := y_a.c1; have yq_a2 := y_a.c2; have yq_a3 := y_a.c3; have yq_a4 := y_a.c4
  have y_b := (x_b.alloc (.cells #[.bool (ngB (od I)), .slice A5 n5 c5, .int .i64 (nE I (-Q0))] 30)); have yq_b0 := y_b.c0; have yq_b1 := y_b.c1; have yq_b2 := y_b.c2; have yq_b3 := y_b.c3; have yq_b4 := y_b.c4
  go_wp2_with fail
  clear y_a yq_a0 yq_a1 yq_a2 yq_a3 yq_a4 y_b yq_b0 yq_b1 yq_b2 yq_b3 yq_b4
  have hb1 := below_alloc v7 (.cells #[.bool (ngB (od I)), .slice A5 n5 c5, .int .i64 (nE I (-Q0))] 30)
  have l_a_x := x_a.lt
  have l_b_x := x_b.lt
  have x_x := Dx.new v7 (ngB (od I)) A5 n5 c5 (nE I (-Q0))
  have e_x : w.heap.size ≤ v7.heap.size := hb.size
  clear q_a0 f_a0 q_a1 f_a1 q_a2 f_a2 q_a3 f_a3 q_a4 f_a4 q_b0 f_b0 q_b1 f_b1 q_b2 f_b2 q_b3 f_b3 q_b4 f_b4
  replace x_a := x_a.keep hb1
  replace x_b := x_b.keep hb1
  replace hT := hT.keep hb1
  replace za := za.keep hb1
  replace zb := zb.keep hb1
  replace zc := zc.keep hb1
  replace zd := zd.keep hb1
  replace zi := zi.keep hb1
  replace hb := bthen hb hb1
  clear hb1
  generalize v7.alloc (.cells #[.bool (ngB (od I)), .slice A5 n5 c5, .int .i64 (nE I (-Q0))] 30) = v8 at *
  obtain ⟨q_a0, f_a0, q_a1, f_a1, q_a2, f_a2, q_a3, f_a3, q_a4, f_a4⟩ := x_a.al
  obtain ⟨q_b0, f_b0, q_b1, f_b1, q_b2, f_b2, q_b3, f_b3, q_b4, f_b4⟩ := x_b.al
  obtain ⟨q_x0, f_x0, q_x1, f_x1, q_x2, f_x2⟩ := x_x.al
  skip
  with_reducible refine (some_any zc zd hT ⟨hq2.1, hq2.2, hUV⟩ i2).mono ?_
  rintro e v9 ⟨J, A6, n6, c6, hJ1, hJ2, rfl, zj, hb1⟩
  replace x_a := x_a.keep hb1
  replace x_b := x_b.keep hb1
  replace x_x := x_x.keep hb1
  replace hT := hT.keep hb1
  replace za := za.keep hb1
  replace zb := zb.keep hb1
  replace zc := zc.keep hb1
  replace zd := zd.keep hb1
  replace zi := zi.keep hb1
  replace hb := bthen hb hb1
  clear hb1
  clear q_a0 f_a0 q_a1 f_a1 q_a2 f_a2 q_a3 f_a3 q_a4 f_a4; obtain ⟨q_a0, f_a0, q_a1, f_a1, q_a2, f_a2, q_a3, f_a3, q_a4, f_a4⟩ := x_a.al
  clear q_b0 f_b0 q_b1 f_b1 q_b2 f_b2 q_b3 f_b3 q_b4 f_b4; obtain ⟨q_b0, f_b0, q_b1, f_b1, q_b2, f_b2, q_b3, f_b3, q_b4, f_b4⟩ := x_b.al
  clear q_x0 f_x0 q_x1 f_x1 q_x2 f_x2; obtain ⟨q_x0, f_x0, q_x1, f_x1, q_x2, f_x2⟩ := x_x.al
  have y_a := (x_a.alloc (.cells #[.bool (ngB (od J)), .slice A6 n6 c6, .int .i64 (nE J (-Q0))] 30)); have yq_a0 := y_a.c0; have yq_a1 := y_a.c1; have yq_a2 := y_a.c2; have yq_a3 := y_a.c3; have yq_a4 := y_a.c4
  have y_b := (x_b.alloc (.cells #[.bool (ngB (od J)), .slice A6 n6 c6, .int .i64 (nE J (-Q0))] 30)); have yq_b0 := y_b.c0; have yq_b1 := y_b.c1; have yq_b2 := y_b.c2; have yq_b3 := y_b.c3; have yq_b4 := y_b.c4
  have y_x := (x_x.alloc (.cells #[.bool (ngB (od J)), .slice A6 n6 c6, .int .i64 (nE J (-Q0))] 30)); have yq_x0 := y_x.c0; have yq_x1 := y_x.c1; have yq_x2 := y_x.c2
  go_wp2_with fail
  clear y_a yq_a0 yq_a1 yq_a2 yq_a3 yq_a4 y_b yq_b0 yq_b1 yq_b2 yq_b3 yq_b4 y_x yq_x0 yq_x1 yq_x2
  have hb1 := below_alloc v9 (.cells #[.bool (ngB (od J)), .slice A6 n6 c6, .int .i64 (nE J (-Q0))] 30)
  have l_a_y := x_a.lt
  have l_b_y := x_b.lt
  have l_x_y := x_x.lt
  have x_y := Dx.new v9 (ngB (od J)) A6 n6 c6 (nE J (-Q0))
  have e_y : w.heap.size ≤ v9.heap.size := hb.size
  clear q_a0 f_a0 q_a1 f_a1 q_a2 f_a2 q_a3 f_a3 q_a4 f_a4 q_b0 f_b0 q_b1 f_b1 q_b2 f_b2 q_b3 f_b3 q_b4 f_b4 q_x0 f_x0 q_x1 f_x1 q_x2 f_x2
  replace x_a := x_a.keep hb1
  replace x_b := x_b.keep hb1
  replace x_x := x_x.keep hb1
  replace hT := hT.keep hb1
  replace za := za.keep hb1
  replace zb := zb.keep hb1
  replace zc := zc.keep hb1
  replace zd := zd.keep hb1
  replace zi := zi.keep hb1
  replace zj := zj.keep hb1
  replace hb := bthen hb hb1
  clear hb1
  generalize v9.alloc (.cells #[.bool (ngB (od J)), .slice A6 n6 c6, .int .i64 (nE J (-Q0))] 30) = v10 at *
  obtain ⟨q_a0, f_a0, q_a1, f_a1, q_a2, f_a2, q_a3, f_a3, q_a4, f_a4⟩ := x_a.al
  obtain ⟨q_b0, f_b0, q_b1, f_b1, q_b2, f_b2, q_b3, f_b3, q_b4, f_b4⟩ := x_b.al
  obtain ⟨q_x0, f_x0, q_x1, f_x1, q_x2, f_x2⟩ := x_x.al
  obtain ⟨q_y0, f_y0, q_y1, f_y1, q_y2, f_y2⟩ := x_y.al
  have bI : Bt I 256 := (Bt.of_si za.si).between (Bt.of_si zb.si) hI1 hI2
  have bJ : Bt J 256 := (Bt.of_si zc.si).between (Bt.of_si zd.si) hJ1 hJ2
  have s1 := sum_nf bI bJ hq rfl rfl; have s2 := dif_nf bI bJ hq rfl rfl; have s3 := mul_nf bI bJ hq rfl rfl
  have t1 := h_int (q := Q0) bI (by omega) hq hI1 hI2; have t2 := h_int (q := Q0) bJ (by omega) hq hJ1 hJ2
  have t3 := h_int (X := X + U) (Y := Y + V) (q := Q0) (bI.add bJ) (by omega) hq (by omega) (by omega)
  have t4 := h_int (X := X - V) (Y := Y - U) (q := Q0) (bI.sub bJ) (by omega) hq (by omega) (by omega)
  have t5 := h_mul bI bJ hq ⟨hI1, hI2⟩ ⟨hJ1, hJ2⟩
  have a1 := add_mn4 hXY hUV; have a2 := sub_mn4 hXY hUV
  have hz := h_zero hq hUV
  have td : U ≠ 0 → ∀ L H, mn4 (fun x y => fdI (x * 2 ^ Q0.toNat) y) X Y U V = L → mx4 (fun x y => cdI (x * 2 ^ Q0.toNat) y) X Y U V = H → _ := fun h0 L H hL hH => h_div (k := 256) bI (by omega) hq ⟨hI1, hI2⟩ h0 hL hH
  clear bI bJ
  generalize od (I + J) = P3 at *; generalize nE (I + J) (-Q0) = F3 at *; generalize od (I - J) = P4 at *; generalize nE (I - J) (-Q0) = F4 at *; generalize od (I * J) = P5 at *; generalize nE (I * J) (-(Q0 + Q0)) = F5 at *
  generalize od I = P1 at *; generalize od J = P2 at *; generalize nE I (-Q0) = e at *; generalize nE J (-Q0) = f at *
  obtain ⟨Ml, hMl⟩ : ∃ M, mn4 (fun x y => flI (x * y) (-Q0)) X Y U V = M := ⟨_, rfl⟩
  obtain ⟨Mh, hMh⟩ : ∃ M, mx4 (fun x y => -flI (-(x * y)) (-Q0)) X Y U V = M := ⟨_, rfl⟩
  rw [hMl, hMh] at t5
  clear hI1 hI2 hJ1 hJ2
  have HS1 := Lib.hid s1; have HS2 := Lib.hid s2; have HS3 := Lib.hid s3; have HT1 := Lib.hid t1; have HT2 := Lib.hid t2; have HT3 := Lib.hid t3; have HT4 := Lib.hid t4; have HT5 := Lib.hid t5; have HA1 := Lib.hid a1; have HA2 := Lib.hid a2; have HZ := Lib.hid hz; have HTD := Lib.hid td; have HML := Lib.hid hMl; have HMH := Lib.hid hMh; have HXY := Lib.hid hXY; have HUV := Lib.hid hUV
  clear s1 s2 s3 t1 t2 t3 t4 t5 a1 a2 hz td hMl hMh hXY hUV
  skip
  with_reducible refine (LAdd_any za zb zc zd ⟨hq2.1, hq2.2, HXY.out⟩ HUV.out 4 (Nat.le_refl _) (Nat.le_refl _) (Nat.le_refl _) (Nat.le_refl _) 5 (by omega) (by omega)).mono ?_
  rintro e v11 ⟨A_s, n_s, c_s, B_s, m_s, d_s, rfl, z1_s, z2_s, hb1⟩
  replace x_a := x_a.keep hb1
  replace x_b := x_b.keep hb1
  replace x_x := x_x.keep hb1
  replace x_y := x_y.keep hb1
  replace hT := hT.keep hb1
  replace za := za.keep hb1
  replace zb := zb.keep hb1
  replace zc := zc.keep hb1
  replace zd := zd.keep hb1
  replace zi := zi.keep hb1
  replace zj := zj.keep hb1
  replace hb := bthen hb hb1
  clear hb1
  clear q_a0 f_a0 q_a1 f_a1 q_a2 f_a2 q_a3 f_a3 q_a4 f_a4; obtain ⟨q_a0, f_a0, q_a1, f_a1, q_a2, f_a2, q_a3, f_a3, q_a4, f_a4⟩ := x_a.al
  clear q_b0 f_b0 q_b1 f_b1 q_b2 f_b2 q_b3 f_b3 q_b4 f_b4; obtain ⟨q_b0, f_b0, q_b1, f_b1, q_b2, f_b2, q_b3, f_b3, q_b4, f_b4⟩ := x_b.al
  clear q_x0 f_x0 q_x1 f_x1 q_x2 f_x2; obtain ⟨q_x0, f_x0, q_x1, f_x1, q_x2, f_x2⟩ := x_x.al
  clear q_y0 f_y0 q_y1 f_y1 q_y2 f_y2; obtain ⟨q_y0, f_y0, q_y1, f_y1, q_y2, f_y2⟩ := x_y.al
  rw [HA1.out.1] at z1_s
  rw [HA1.out.2] at z2_s
  rw [HA1.out.1, HA1.out.2]
  have y_a := (x_a.alloc (.cells #[.bool (ngB (X + U)), .slice A_s n_s c_s, .bool (ngB (Y + V)), .slice B_s m_s d_s, .int .i64 Q0] 26)); have yq_a0 := y_a.c0; have yq_a1 := y_a.c1; have yq_a2 := y_a.c2; have yq_a3 := y_a.c3; have yq_a4 := y_a.c4
  have y_b := (x_b.alloc (.cells #[.bool (ngB (X + U)), .slice A_s n_s c_s, .bool (ngB (Y + V)), .slice B_s m_s d_s, .int .i64 Q0] 26)); have yq_b0 := y_b.c0; have yq_b1 := y_b.c1; have yq_b2 := y_b.c2; have yq_b3 := y_b.c3; have yq_b4 := y_b.c4
  have y_x := (x_x.alloc (.cells #[.bool (ngB (X + U)), .slice A_s n_s c_s, .bool (ngB (Y + V)), .slice B_s m_s d_s, .int .i64 Q0] 26)); have yq_x0 := y_x.c0; have yq_x1 := y_x.c1; have yq_x2 := y_x.c2
  have y_y := (x_y.alloc (.cells #[.bool (ngB (X + U)), .slice A_s n_s c_s, .bool (ngB (Y + V)), .slice B_s m_s d_s, .int .i64 Q0] 26)); have yq_y0 := y_y.c0; have yq_y1 := y_y.c1; have yq_y2 := y_y.c2
  go_wp2_with fail
  clear y_a yq_a0 yq_a1 yq_a2 yq_a3 yq_a4 y_b yq_b0 yq_b1 yq_b2 yq_b3 yq_b4 y_x yq_x0 yq_x1 yq_x2 y_y yq_y0 yq_y1 yq_y2
  have hb1 := below_alloc v11 (.cells #[.bool (ngB (X + U)), .slice A_s n_s c_s, .bool (ngB (Y + V)), .slice B_s m_s d_s, .int .i64 Q0] 26)
  have l_a_s := x_a.lt
  have l_b_s := x_b.lt
  have l_x_s := x_x.lt
  have l_y_s := x_y.lt
  have x_s := Lx.new v11 (ngB (X + U)) A_s n_s c_s (ngB (Y + V)) B_s m_s d_s Q0
  have e_s : w.heap.size ≤ v11.heap.size := hb.size
  clear q_a0 f_a0 q_a1 f_a1 q_a2 f_a2 q_a3 f_a3 q_a4 f_a4 q_b0 f_b0 q_b1 f_b1 q_b2 f_b2 q_b3 f_b3 q_b4 f_b4 q_x0 f_x0 q_x1 f_x1 q_x2 f_x2 q_y0 f_y0 q_y1 f_y1 q_y2 f_y2
  replace x_a := x_a.keep hb1
  replace x_b := x_b.keep hb1
  replace x_x := x_x.keep hb1
  replace x_y := x_y.keep hb1
  replace hT := hT.keep hb1
  replace za := za.keep hb1
  replace zb := zb.keep hb1
  replace zc := zc.keep hb1
  replace zd := zd.keep hb1
  replace zi := zi.keep hb1
  replace zj := zj.keep hb1
  replace z1_s := z1_s.keep hb1
  replace z2_s := z2_s.keep hb1
  replace hb := bthen hb hb1
  clear hb1
  generalize v11.alloc (.cells #[.bool (ngB (X + U)), .slice A_s n_s c_s, .bool (ngB (Y + V)), .slice B_s m_s d_s, .int .i64 Q0] 26) = v12 at *
  obtain ⟨q_a0, f_a0, q_a1, f_a1, q_a2, f_a2, q_a3, f_a3, q_a4, f_a4⟩ := x_a.al
  obtain ⟨q_b0, f_b0, q_b1, f_b1, q_b2, f_b2, q_b3, f_b3, q_b4, f_b4⟩ := x_b.al
  obtain ⟨q_x0, f_x0, q_x1, f_x1, q_x2, f_x2⟩ := x_x.al
  obtain ⟨q_y0, f_y0, q_y1, f_y1, q_y2, f_y2⟩ := x_y.al
  obtain ⟨q_s0, f_s0, q_s1, f_s1, q_s2, f_s2, q_s3, f_s3, q_s4, f_s4⟩ := x_s.al
  skip
  with_reducible refine (LSub_any za zb zc zd ⟨hq2.1, hq2.2, HXY.out⟩ HUV.out 4 (Nat.le_refl _) (Nat.le_refl _) (Nat.le_refl _) (Nat.le_refl _) 5 (by omega) (by omega)).mono ?_
  rintro e v13 ⟨A_t, n_t, c_t, B_t, m_t, d_t, rfl, z1_t, z2_t, hb1⟩
  replace x_a := x_a.keep hb1
  replace x_b := x_b.keep hb1
  replace x_x := x_x.keep hb1
  replace x_y := x_y.keep hb1
  replace x_s := x_s.keep hb1
  replace hT := hT.keep hb1
  replace za := za.keep hb1
  replace zb := zb.keep hb1
  replace zc := zc.keep hb1
  replace zd := zd.keep hb1
  replace zi := zi.keep hb1
  replace zj := zj.keep hb1
  replace z1_s := z1_s.keep hb1
  replace z2_s := z2_s.keep hb1
  replace hb := bthen hb hb1
  clear hb1
  clear q_a0 f_a0 q_a1 f_a1 q_a2 f_a2 q_a3 f_a3 q_a4 f_a4; obtain ⟨q_a0, f_a0, q_a1, f_a1, q_a2, f_a2, q_a3, f_a3, q_a4, f_a4⟩ := x_a.al
  clear q_b0 f_b0 q_b1 f_b1 q_b2 f_b2 q_b3 f_b3 q_b4 f_b4; obtain ⟨q_b0, f_b0, q_b1, f_b1, q_b2, f_b2, q_b3, f_b3, q_b4, f_b4⟩ := x_b.al
  clear q_x0 f_x0 q_x1 f_x1 q_x2 f_x2; obtain ⟨q_x0, f_x0, q_x1, f_x1, q_x2, f_x2⟩ := x_x.al
  clear q_y0 f_y0 q_y1 f_y1 q_y2 f_y2; obtain ⟨q_y0, f_y0, q_y1, f_y1, q_y2, f_y2⟩ := x_y.al
  clear q_s0 f_s0 q_s1 f_s1 q_s2 f_s2 q_s3 f_s3 q_s4 f_s4; obtain ⟨q_s0, f_s0, q_s1, f_s1, q_s2, f_s2, q_s3, f_s3, q_s4, f_s4⟩ := x_s.al
  rw [HA2.out.1] at z1_t
  rw [HA2.out.2] at z2_t
  rw [HA2.out.1, HA2.out.2]
  have y_a := (x_a.alloc (.cells #[.bool (ngB (X - V)), .slice A_t n_t c_t, .bool (ngB (Y - U)), .slice B_t m_t d_t, .int .i64 Q0] 26)); have yq_a0 := y_a.c0; have yq_a1 := y_a.c1; have yq_a2 := y_a.c2; have yq_a3 := y_a.c3; have yq_a4 := y_a.c4
  have y_b := (x_b.alloc (.cells #[.bool (ngB (X - V)), .slice A_t n_t c_t, .bool (ngB (Y - U)), .slice B_t m_t d_t, .int .i64 Q0] 26)); have yq_b0 := y_b.c0; have yq_b1 := y_b.c1; have yq_b2 := y_b.c2; have yq_b3 := y_b.c3; have yq_b4 := y_b.c4
  have y_x := (x_x.alloc (.cells #[.bool (ngB (X - V)), .slice A_t n_t c_t, .bool (ngB (Y - U)), .slice B_t m_t d_t, .int .i64 Q0] 26)); have yq_x0 := y_x.c0; have yq_x1 := y_x.c1; have yq_x2 := y_x.c2
  have y_y := (x_y.alloc (.cells #[.bool (ngB (X - V)), .slice A_t n_t c_t, .bool (ngB (Y - U)), .slice B_t m_t d_t, .int .i64 Q0] 26)); have yq_y0 := y_y.c0; have yq_y1 := y_y.c1; have yq_y2 := y_y.c2
  have y_s := (x_s.alloc (.cells #[.bool (ngB (X - V)), .slice A_t n_t c_t, .bool (ngB (Y - U)), .slice B_t m_t d_t, .int .i64 Q0] 26)); have yq_s0 := y_s.c0; have yq_s1 := y_s.c1; have yq_s2 := y_s.c2; have yq_s3 := y_s.c3; have yq_s4 := y_s.c4
  go_wp2_with fail
  clear y_a yq_a0 yq_a1 yq_a2 yq_a3 yq_a4 y_b yq_b0 yq_b1 yq_b2 yq_b3 yq_b4 y_x yq_x0 yq_x1 yq_x2 y_y yq_y0 yq_y1 yq_y2 y_s yq_s0 yq_s1 yq_s2 yq_s3 yq_s4
  have hb1 := below_alloc v13 (.cells #[.bool (ngB (X - V)), .slice A_t n_t c_t, .bool (ngB (Y - U)), .slice B_t m_t d_t, .int .i64 Q0] 26)
  have l_a_t := x_a.lt
  have l_b_t := x_b.lt
  have l_x_t := x_x.lt
  have l_y_t := x_y.lt
  have l_s_t := x_s.lt
  have x_t := Lx.new v13 (ngB (X - V)) A_t n_t c_t (ngB (Y - U)) B_t m_t d_t Q0
  have e_t : w.heap.size ≤ v13.heap.size := hb.size
  clear q_a0 f_a0 q_a1 f_a1 q_a2 f_a2 q_a3 f_a3 q_a4 f_a4 q_b0 f_b0 q_b1 f_b1 q_b2 f_b2 q_b3 f_b3 q_b4 f_b4 q_x0 f_x0 q_x1 f_x1 q_x2 f_x2 q_y0 f_y0 q_y1 f_y1 q_y2 f_y2 q_s0 f_s0 q_s1 f_s1 q_s2 f_s2 q_s3 f_s3 q_s4 f_s4
  replace x_a := x_a.keep hb1
  replace x_b := x_b.keep hb1
  replace x_x := x_x.keep hb1
  replace x_y := x_y.keep hb1
  replace x_s := x_s.keep hb1
  replace hT := hT.keep hb1
  replace za := za.keep hb1
  replace zb := zb.keep hb1
  replace zc := zc.keep hb1
  replace zd := zd.keep hb1
  replace zi := zi.keep hb1
  replace zj := zj.keep hb1
  replace z1_s := z1_s.keep hb1
  replace z2_s := z2_s.keep hb1
  replace z1_t := z1_t.keep hb1
  replace z2_t := z2_t.keep hb1
  replace hb := bthen hb hb1
  clear hb1
  generalize v13.alloc (.cells #[.bool (ngB (X - V)), .slice A_t n_t c_t, .bool (ngB (Y - U)), .slice B_t m_t d_t, .int .i64 Q0] 26) = v14 at *
  obtain ⟨q_a0, f_a0, q_a1, f_a1, q_a2, f_a2, q_a3, f_a3, q_a4, f_a4⟩ := x_a.al
  obtain ⟨q_b0, f_b0, q_b1, f_b1, q_b2, f_b2, q_b3, f_b3, q_b4, f_b4⟩ := x_b.al
  obtain ⟨q_x0, f_x0, q_x1, f_x1, q_x2, f_x2⟩ := x_x.al
  obtain ⟨q_y0, f_y0, q_y1, f_y1, q_y2, f_y2⟩ := x_y.al
  obtain ⟨q_s0, f_s0, q_s1, f_s1, q_s2, f_s2, q_s3, f_s3, q_s4, f_s4⟩ := x_s.al
  obtain ⟨q_t0, f_t0, q_t1, f_t1, q_t2, f_t2, q_t3, f_t3, q_t4, f_t4⟩ := x_t.al
  skip
  with_reducible refine (LMul_any za zb zc zd ⟨hq2.1, hq2.2, HXY.out⟩ HUV.out 4 (Nat.le_refl _) (Nat.le_refl _) (Nat.le_refl _) (Nat.le_refl _) 136 (by omega) (by omega)).mono ?_
  rintro e v15 ⟨A_m, n_m, c_m, B_m, m_m, d_m, rfl, z1_m, z2_m, hb1⟩
  replace x_a := x_a.keep hb1
  replace x_b := x_b.keep hb1
  replace x_x := x_x.keep hb1
  replace x_y := x_y.keep hb1
  replace x_s := x_s.keep hb1
  replace x_t := x_t.keep hb1
  replace hT := hT.keep hb1
  replace za := za.keep hb1
  replace zb := zb.keep hb1
  replace zc := zc.keep hb1
  replace zd := zd.keep hb1
  replace zi := zi.keep hb1
  replace zj := zj.keep hb1
  replace z1_s := z1_s.keep hb1
  replace z2_s := z2_s.keep hb1
  replace z1_t := z1_t.keep hb1
  replace z2_t := z2_t.keep hb1
  replace hb := bthen hb hb1
  clear hb1
  clear q_a0 f_a0 q_a1 f_a1 q_a2 f_a2 q_a3 f_a3 q_a4 f_a4; obtain ⟨q_a0, f_a0, q_a1, f_a1, q_a2, f_a2, q_a3, f_a3, q_a4, f_a4⟩ := x_a.al
  clear q_b0 f_b0 q_b1 f_b1 q_b2 f_b2 q_b3 f_b3 q_b4 f_b4; obtain ⟨q_b0, f_b0, q_b1, f_b1, q_b2, f_b2, q_b3, f_b3, q_b4, f_b4⟩ := x_b.al
  clear q_x0 f_x0 q_x1 f_x1 q_x2 f_x2; obtain ⟨q_x0, f_x0, q_x1, f_x1, q_x2, f_x2⟩ := x_x.al
  clear q_y0 f_y0 q_y1 f_y1 q_y2 f_y2; obtain ⟨q_y0, f_y0, q_y1, f_y1, q_y2, f_y2⟩ := x_y.al
  clear q_s0 f_s0 q_s1 f_s1 q_s2 f_s2 q_s3 f_s3 q_s4 f_s4; obtain ⟨q_s0, f_s0, q_s1, f_s1, q_s2, f_s2, q_s3, f_s3, q_s4, f_s4⟩ := x_s.al
  clear q_t0 f_t0 q_t1 f_t1 q_t2 f_t2 q_t3 f_t3 q_t4 f_t4; obtain ⟨q_t0, f_t0, q_t1, f_t1, q_t2, f_t2, q_t3, f_t3, q_t4, f_t4⟩ := x_t.al
  rw [HML.out] at z1_m
  rw [HMH.out] at z2_m
  rw [HML.out, HMH.out]
  have y_a := (x_a.alloc (.cells #[.bool (ngB (Ml)), .slice A_m n_m c_m, .bool (ngB (Mh)), .slice B_m m_m d_m, .int .i64 Q0] 26)); have yq_a0 := y_a.c0; have yq_a1 := y_a.c1; have yq_a2 := y_a.c2; have yq_a3 := y_a.c3; have yq_a4 := y_a.c4
  have y_b := (x_b.alloc (.cells #[.bool (ngB (Ml)), .slice A_m n_m c_m, .bool (ngB (Mh)), .slice B_m m_m d_m, .int .i64 Q0] 26)); have yq_b0 := y_b.c0; have yq_b1 := y_b.c1; have yq_b2 := y_b.c2; have yq_b3 := y_b.c3; have yq_b4 := y_b.c4
  have y_x := (x_x.alloc (.cells #[.bool (ngB (Ml)), .slice A_m n_m c_m, .bool (ngB (Mh)), .slice B_m m_m d_m, .int .i64 Q0] 26)); have yq_x0 := y_x.c0; have yq_x1 := y_x.c1; have yq_x2 := y_x.c2
  have y_y := (x_y.alloc (.cells #[.bool (ngB (Ml)), .slice A_m n_m c_m, .bool (ngB (Mh)), .slice B_m m_m d_m, .int .i64 Q0] 26)); have yq_y0 := y_y.c0; have yq_y1 := y_y.c1; have yq_y2 := y_y.c2
  have y_s := (x_s.alloc (.cells #[.bool (ngB (Ml)), .slice A_m n_m c_m, .bool (ngB (Mh)), .slice B_m m_m d_m, .int .i64 Q0] 26)); have yq_s0 := y_s.c0; have yq_s1 := y_s.c1; have yq_s2 := y_s.c2; have yq_s3 := y_s.c3; have yq_s4 := y_s.c4
  have y_t := (x_t.alloc (.cells #[.bool (ngB (Ml)), .slice A_m n_m c_m, .bool (ngB (Mh)), .slice B_m m_m d_m, .int .i64 Q0] 26)); have yq_t0 := y_t.c0; have yq_t1 := y_t.c1; have yq_t2 := y_t.c2; have yq_t3 := y_t.c3; have yq_t4 := y_t.c4
  go_wp2_with fail
  clear y_a yq_a0 yq_a1 yq_a2 yq_a3 yq_a4 y_b yq_b0 yq_b1 yq_b2 yq_b3 yq_b4 y_x yq_x0 yq_x1 yq_x2 y_y yq_y0 yq_y1 yq_y2 y_s yq_s0 yq_s1 yq_s2 yq_s3 yq_s4 y_t yq_t0 yq_t1 yq_t2 yq_t3 yq_t4
  have hb1 := below_alloc v15 (.cells #[.bool (ngB (Ml)), .slice A_m n_m c_m, .bool (ngB (Mh)), .slice B_m m_m d_m, .int .i64 Q0] 26)
  have l_a_m := x_a.lt
  have l_b_m := x_b.lt
  have l_x_m := x_x.lt
  have l_y_m := x_y.lt
  have l_s_m := x_s.lt
  have l_t_m := x_t.lt
  have x_m := Lx.new v15 (ngB (Ml)) A_m n_m c_m (ngB (Mh)) B_m m_m d_m Q0
  have e_m : w.heap.size ≤ v15.heap.size := hb.size
  clear q_a0 f_a0 q_a1 f_a1 q_a2 f_a2 q_a3 f_a3 q_a4 f_a4 q_b0 f_b0 q_b1 f_b1 q_b2 f_b2 q_b3 f_b3 q_b4 f_b4 q_x0 f_x0 q_x1 f_x1 q_x2 f_x2 q_y0 f_y0 q_y1 f_y1 q_y2 f_y2 q_s0 f_s0 q_s1 f_s1 q_s2 f_s2 q_s3 f_s3 q_s4 f_s4 q_t0 f_t0 q_t1 f_t1 q_t2 f_t2 q_t3 f_t3 q_t4 f_t4
  replace x_a := x_a.keep hb1
  replace x_b := x_b.keep hb1
  replace x_x := x_x.keep hb1
  replace x_y := x_y.keep hb1
  replace x_s := x_s.keep hb1
  replace x_t := x_t.keep hb1
  replace hT := hT.keep hb1
  replace za := za.keep hb1
  replace zb := zb.keep hb1
  replace zc := zc.keep hb1
  replace zd := zd.keep hb1
  replace zi := zi.keep hb1
  replace zj := zj.keep hb1
  replace z1_s := z1_s.keep hb1
  replace z2_s := z2_s.keep hb1
  replace z1_t := z1_t.keep hb1
  replace z2_t := z2_t.keep hb1
  replace z1_m := z1_m.keep hb1
  replace z2_m := z2_m.keep hb1
  replace hb := bthen hb hb1
  clear hb1
  generalize v15.alloc (.cells #[.bool (ngB (Ml)), .slice A_m n_m c_m, .bool (ngB (Mh)), .slice B_m m_m d_m, .int .i64 Q0] 26) = v16 at *
  obtain ⟨q_a0, f_a0, q_a1, f_a1, q_a2, f_a2, q_a3, f_a3, q_a4, f_a4⟩ := x_a.al
  obtain ⟨q_b0, f_b0, q_b1, f_b1, q_b2, f_b2, q_b3, f_b3, q_b4, f_b4⟩ := x_b.al
  obtain ⟨q_x0, f_x0, q_x1, f_x1, q_x2, f_x2⟩ := x_x.al
  obtain ⟨q_y0, f_y0, q_y1, f_y1, q_y2, f_y2⟩ := x_y.al
  obtain ⟨q_s0, f_s0, q_s1, f_s1, q_s2, f_s2, q_s3, f_s3, q_s4, f_s4⟩ := x_s.al
  obtain ⟨q_t0, f_t0, q_t1, f_t1, q_t2, f_t2, q_t3, f_t3, q_t4, f_t4⟩ := x_t.al
  obtain ⟨q_m0, f_m0, q_m1, f_m1, q_m2, f_m2, q_m3, f_m3, q_m4, f_m4⟩ := x_m.al
  go_region_held3 (fun w' => w'.cell? ⟨w.heap.size, 0, none⟩ = some (.bool d1) ∧ w'.cell? ⟨w.heap.size, 1, none⟩ = some (.slice E1 m1 k1) ∧ w'.cell? ⟨w.heap.size, 2, none⟩ = some (.bool d2) ∧ w'.cell? ⟨w.heap.size, 3, none⟩ = some (.slice E2 m2 k2) ∧ w'.cell? ⟨w.heap.size, 4, none⟩ = some (.int .i64 Q0) ∧ w'.cell? ⟨w.heap.size + 1, 0, none⟩ = some (.bool d3) ∧ w'.cell? ⟨w.heap.size + 1, 1, none⟩ = some (.slice E3 m3 k3) ∧ w'.cell? ⟨w.heap.size + 1, 2, none⟩ = some (.bool d4) ∧ w'.cell? ⟨w.heap.size + 1, 3, none⟩ = some (.slice E4 m4 k4) ∧ w'.cell? ⟨w.heap.size + 1, 4, none⟩ = some (.int .i64 Q0) ∧ w'.cell? ⟨v7.heap.size, 0, none⟩ = some (.bool (ngB P1)) ∧ w'.cell? ⟨v7.heap.size, 1, none⟩ = some (.slice A5 n5 c5) ∧ w'.cell? ⟨v7.heap.size, 2, none⟩ = some (.int .i64 e) ∧ w'.cell? ⟨v9.heap.size, 0, none⟩ = some (.bool (ngB P2)) ∧ w'.cell? ⟨v9.heap.size, 1, none⟩ = some (.slice A6 n6 c6) ∧ w'.cell? ⟨v9.heap.size, 2, none⟩ = some (.int .i64 f) ∧ w'.cell? ⟨v11.heap.size, 0, none⟩ = some (.bool (ngB (X + U))) ∧ w'.cell? ⟨v11.heap.size, 1, none⟩ = some (.slice A_s n_s c_s) ∧ w'.cell? ⟨v11.heap.size, 2, none⟩ = some (.bool (ngB (Y + V))) ∧ w'.cell? ⟨v11.heap.size, 3, none⟩ = some (.slice B_s m_s d_s) ∧ w'.cell? ⟨v11.heap.size, 4, none⟩ = some (.int .i64 Q0) ∧ w'.cell? ⟨v13.heap.size, 0, none⟩ = some (.bool (ngB (X - V))) ∧ w'.cell? ⟨v13.heap.size, 1, none⟩ = some (.slice A_t n_t c_t) ∧ w'.cell? ⟨v13.heap.size, 2, none⟩ = some (.bool (ngB (Y - U))) ∧ w'.cell? ⟨v13.heap.size, 3, none⟩ = some (.slice B_t m_t d_t) ∧ w'.cell? ⟨v13.heap.size, 4, none⟩ = some (.int .i64 Q0) ∧ w'.cell? ⟨v15.heap.size, 0, none⟩ = some (.bool (ngB (Ml))) ∧ w'.cell? ⟨v15.heap.size, 1, none⟩ = some (.slice A_m n_m c_m) ∧ w'.cell? ⟨v15.heap.size, 2, none⟩ = some (.bool (ngB (Mh))) ∧ w'.cell? ⟨v15.heap.size, 3, none⟩ = some (.slice B_m m_m d_m) ∧ w'.cell? ⟨v15.heap.size, 4, none⟩ = some (.int .i64 Q0))
    (first | (with_reducible exact ⟨x_a.c0, x_a.c1, x_a.c2, x_a.c3, x_a.c4, x_b.c0, x_b.c1, x_b.c2, x_b.c3, x_b.c4, x_x.c0, x_x.c1, x_x.c2, x_y.c0, x_y.c1, x_y.c2, x_s.c0, x_s.c1, x_s.c2, x_s.c3, x_s.c4, x_t.c0, x_t.c1, x_t.c2, x_t.c3, x_t.c4, x_m.c0, x_m.c1, x_m.c2, x_m.c3, x_m.c4⟩) | (with_reducible exact ⟨(x_a.aside (by omega)).c0, (x_a.aside (by omega)).c1, (x_a.aside (by omega)).c2, (x_a.aside (by omega)).c3, (x_a.aside (by omega)).c4, (x_b.aside (by omega)).c0, (x_b.aside (by omega)).c1, (x_b.aside (by omega)).c2, (x_b.aside (by omega)).c3, (x_b.aside (by omega)).c4, (x_x.aside (by omega)).c0, (x_x.aside (by omega)).c1, (x_x.aside (by omega)).c2, (x_y.aside (by omega)).c0, (x_y.aside (by omega)).c1, (x_y.aside (by omega)).c2, (x_s.aside (by omega)).c0, (x_s.aside (by omega)).c1, (x_s.aside (by omega)).c2, (x_s.aside (by omega)).c3, (x_s.aside (by omega)).c4, (x_t.aside (by omega)).c0, (x_t.aside (by omega)).c1, (x_t.aside (by omega)).c2, (x_t.aside (by omega)).c3, (x_t.aside (by omega)).c4, (x_m.aside (by omega)).c0, (x_m.aside (by omega)).c1, (x_m.aside (by omega)).c2, (x_m.aside (by omega)).c3, (x_m.aside (by omega)).c4⟩) | (with_reducible exact ⟨((x_a.aside (by omega)).aside (by omega)).c0, ((x_a.aside (by omega)).aside (by omega)).c1, ((x_a.aside (by omega)).aside (by omega)).c2, ((x_a.aside (by omega)).aside (by omega)).c3, ((x_a.aside (by omega)).aside (by omega)).c4, ((x_b.aside (by omega)).aside (by omega)).c0, ((x_b.aside (by omega)).aside (by omega)).c1, ((x_b.aside (by omega)).aside (by omega)).c2, ((x_b.aside (by omega)).aside (by omega)).c3, ((x_b.aside (by omega)).aside (by omega)).c4, ((x_x.aside (by omega)).aside (by omega)).c0, ((x_x.aside (by omega)).aside (by omega)).c1, ((x_x.aside (by omega)).aside (by omega)).c2, ((x_y.aside (by omega)).aside (by omega)).c0, ((x_y.aside (by omega)).aside (by omega)).c1, ((x_y.aside (by omega)).aside (by omega)).c2, ((x_s.aside (by omega)).aside (by omega)).c0, ((x_s.aside (by omega)).aside (by omega)).c1, ((x_s.aside (by omega)).aside (by omega)).c2, ((x_s.aside (by omega)).aside (by omega)).c3, ((x_s.aside (by omega)).aside (by omega)).c4, ((x_t.aside (by omega)).aside (by omega)).c0, ((x_t.aside (by omega)).aside (by omega)).c1, ((x_t.aside (by omega)).aside (by omega)).c2, ((x_t.aside (by omega)).aside (by omega)).c3, ((x_t.aside (by omega)).aside (by omega)).c4, ((x_m.aside (by omega)).aside (by omega)).c0, ((x_m.aside (by omega)).aside (by omega)).c1, ((x_m.aside (by omega)).aside (by omega)).c2, ((x_m.aside (by omega)).aside (by omega)).c3, ((x_m.aside (by omega)).aside (by omega)).c4⟩) | (with_reducible exact ⟨(x_a.asideD (by omega)).c0, (x_a.asideD (by omega)).c1, (x_a.asideD (by omega)).c2, (x_a.asideD (by omega)).c3, (x_a.asideD (by omega)).c4, (x_b.asideD (by omega)).c0, (x_b.asideD (by omega)).c1, (x_b.asideD (by omega)).c2, (x_b.asideD (by omega)).c3, (x_b.asideD (by omega)).c4, (x_x.asideD (by omega)).c0, (x_x.asideD (by omega)).c1, (x_x.asideD (by omega)).c2, (x_y.asideD (by omega)).c0, (x_y.asideD (by omega)).c1, (x_y.asideD (by omega)).c2, (x_s.asideD (by omega)).c0, (x_s.asideD (by omega)).c1, (x_s.asideD (by omega)).c2, (x_s.asideD (by omega)).c3, (x_s.asideD (by omega)).c4, (x_t.asideD (by omega)).c0, (x_t.asideD (by omega)).c1, (x_t.asideD (by omega)).c2, (x_t.asideD (by omega)).c3, (x_t.asideD (by omega)).c4, (x_m.asideD (by omega)).c0, (x_m.asideD (by omega)).c1, (x_m.asideD (by omega)).c2, (x_m.asideD (by omega)).c3, (x_m.asideD (by omega)).c4⟩) | (with_reducible exact ⟨((x_a.asideD (by omega)).asideD (by omega)).c0, ((x_a.asideD (by omega)).asideD (by omega)).c1, ((x_a.asideD (by omega)).asideD (by omega)).c2, ((x_a.asideD (by omega)).asideD (by omega)).c3, ((x_a.asideD (by omega)).asideD (by omega)).c4, ((x_b.asideD (by omega)).asideD (by omega)).c0, ((x_b.asideD (by omega)).asideD (by omega)).c1, ((x_b.asideD (by omega)).asideD (by omega)).c2, ((x_b.asideD (by omega)).asideD (by omega)).c3, ((x_b.asideD (by omega)).asideD (by omega)).c4, ((x_x.asideD (by omega)).asideD (by omega)).c0, ((x_x.asideD (by omega)).asideD (by omega)).c1, ((x_x.asideD (by omega)).asideD (by omega)).c2, ((x_y.asideD (by omega)).asideD (by omega)).c0, ((x_y.asideD (by omega)).asideD (by omega)).c1, ((x_y.asideD (by omega)).asideD (by omega)).c2, ((x_s.asideD (by omega)).asideD (by omega)).c0, ((x_s.asideD (by omega)).asideD (by omega)).c1, ((x_s.asideD (by omega)).asideD (by omega)).c2, ((x_s.asideD (by omega)).asideD (by omega)).c3, ((x_s.asideD (by omega)).asideD (by omega)).c4, ((x_t.asideD (by omega)).asideD (by omega)).c0, ((x_t.asideD (by omega)).asideD (by omega)).c1, ((x_t.asideD (by omega)).asideD (by omega)).c2, ((x_t.asideD (by omega)).asideD (by omega)).c3, ((x_t.asideD (by omega)).asideD (by omega)).c4, ((x_m.asideD (by omega)).asideD (by omega)).c0, ((x_m.asideD (by omega)).asideD (by omega)).c1, ((x_m.asideD (by omega)).asideD (by omega)).c2, ((x_m.asideD (by omega)).asideD (by omega)).c3, ((x_m.asideD (by omega)).asideD (by omega)).c4⟩) | (with_reducible exact ⟨(x_a.asideL (by omega)).c0, (x_a.asideL (by omega)).c1, (x_a.asideL (by omega)).c2, (x_a.asideL (by omega)).c3, (x_a.asideL (by omega)).c4, (x_b.asideL (by omega)).c0, (x_b.asideL (by omega)).c1, (x_b.asideL (by omega)).c2, (x_b.asideL (by omega)).c3, (x_b.asideL (by omega)).c4, (x_x.asideL (by omega)).c0, (x_x.asideL (by omega)).c1, (x_x.asideL (by omega)).c2, (x_y.asideL (by omega)).c0, (x_y.asideL (by omega)).c1, (x_y.asideL (by omega)).c2, (x_s.asideL (by omega)).c0, (x_s.asideL (by omega)).c1, (x_s.asideL (by omega)).c2, (x_s.asideL (by omega)).c3, (x_s.asideL (by omega)).c4, (x_t.asideL (by omega)).c0, (x_t.asideL (by omega)).c1, (x_t.asideL (by omega)).c2, (x_t.asideL (by omega)).c3, (x_t.asideL (by omega)).c4, (x_m.asideL (by omega)).c0, (x_m.asideL (by omega)).c1, (x_m.asideL (by omega)).c2, (x_m.asideL (by omega)).c3, (x_m.asideL (by omega)).c4⟩) | (with_reducible exact ⟨((x_a.asideL (by omega)).asideL (by omega)).c0, ((x_a.asideL (by omega)).asideL (by omega)).c1, ((x_a.asideL (by omega)).asideL (by omega)).c2, ((x_a.asideL (by omega)).asideL (by omega)).c3, ((x_a.asideL (by omega)).asideL (by omega)).c4, ((x_b.asideL (by omega)).asideL (by omega)).c0, ((x_b.asideL (by omega)).asideL (by omega)).c1, ((x_b.asideL (by omega)).asideL (by omega)).c2, ((x_b.asideL (by omega)).asideL (by omega)).c3, ((x_b.asideL (by omega)).asideL (by omega)).c4, ((x_x.asideL (by omega)).asideL (by omega)).c0, ((x_x.asideL (by omega)).asideL (by omega)).c1, ((x_x.asideL (by omega)).asideL (by omega)).c2, ((x_y.asideL (by omega)).asideL (by omega)).c0, ((x_y.asideL (by omega)).asideL (by omega)).c1, ((x_y.asideL (by omega)).asideL (by omega)).c2, ((x_s.asideL (by omega)).asideL (by omega)).c0, ((x_s.asideL (by omega)).asideL (by omega)).c1, ((x_s.asideL (by omega)).asideL (by omega)).c2, ((x_s.asideL (by omega)).asideL (by omega)).c3, ((x_s.asideL (by omega)).asideL (by omega)).c4, ((x_t.asideL (by omega)).asideL (by omega)).c0, ((x_t.asideL (by omega)).asideL (by omega)).c1, ((x_t.asideL (by omega)).asideL (by omega)).c2, ((x_t.asideL (by omega)).asideL (by omega)).c3, ((x_t.asideL (by omega)).asideL (by omega)).c4, ((x_m.asideL (by omega)).asideL (by omega)).c0, ((x_m.asideL (by omega)).asideL (by omega)).c1, ((x_m.asideL (by omega)).asideL (by omega)).c2, ((x_m.asideL (by omega)).asideL (by omega)).c3, ((x_m.asideL (by omega)).asideL (by omega)).c4⟩) | go_keep)
    (first | (go_at_call 12; (with_reducible refine (Has_any za.drw zb.drw zi.drw.zr (by omega) (by omega) (by omega)).mono ?_); rintro e v17 ⟨rfl, hb1⟩; replace hb1 := undrew hb1; replace x_a := x_a.keep hb1; replace x_b := x_b.keep hb1; replace x_x := x_x.keep hb1; replace x_y := x_y.keep hb1; replace x_s := x_s.keep hb1; replace x_t := x_t.keep hb1; replace x_m := x_m.keep hb1; replace hT := hT.keep hb1; replace za := za.keep hb1; replace zb := zb.keep hb1; replace zc := zc.keep hb1; replace zd := zd.keep hb1; replace zi := zi.keep hb1; replace zj := zj.keep hb1; replace z1_s := z1_s.keep hb1; replace z2_s := z2_s.keep hb1; replace z1_t := z1_t.keep hb1; replace z2_t := z2_t.keep hb1; replace z1_m := z1_m.keep hb1; replace z2_m := z2_m.keep hb1; replace hb := bthen hb hb1; clear hb1; clear q_a0 f_a0 q_a1 f_a1 q_a2 f_a2 q_a3 f_a3 q_a4 f_a4; obtain ⟨q_a0, f_a0, q_a1, f_a1, q_a2, f_a2, q_a3, f_a3, q_a4, f_a4⟩ := x_a.al; clear q_b0 f_b0 q_b1 f_b1 q_b2 f_b2 q_b3 f_b3 q_b4 f_b4; obtain ⟨q_b0, f_b0, q_b1, f_b1, q_b2, f_b2, q_b3, f_b3, q_b4, f_b4⟩ := x_b.al; clear q_x0 f_x0 q_x1 f_x1 q_x2 f_x2; obtain ⟨q_x0, f_x0, q_x1, f_x1, q_x2, f_x2⟩ := x_x.al; clear q_y0 f_y0 q_y1 f_y1 q_y2 f_y2; obtain ⟨q_y0, f_y0, q_y1, f_y1, q_y2, f_y2⟩ := x_y.al; clear q_s0 f_s0 q_s1 f_s1 q_s2 f_s2 q_s3 f_s3 q_s4 f_s4; obtain ⟨q_s0, f_s0, q_s1, f_s1, q_s2, f_s2, q_s3, f_s3, q_s4, f_s4⟩ := x_s.al; clear q_t0 f_t0 q_t1 f_t1 q_t2 f_t2 q_t3 f_t3 q_t4 f_t4; obtain ⟨q_t0, f_t0, q_t1, f_t1, q_t2, f_t2, q_t3, f_t3, q_t4, f_t4⟩ := x_t.al; clear q_m0 f_m0 q_m1 f_m1 q_m2 f_m2 q_m3 f_m3 q_m4 f_m4; obtain ⟨q_m0, f_m0, q_m1, f_m1, q_m2, f_m2, q_m3, f_m3, q_m4, f_m4⟩ := x_m.al; rw [HT1.out]) | (go_at_call 12; (with_reducible refine (Has_any zc zd zj.zr (by omega) (by omega) (by omega)).mono ?_); rintro e v18 ⟨rfl, hb1⟩; replace x_a := x_a.keep hb1; replace x_b := x_b.keep hb1; replace x_x := x_x.keep hb1; replace x_y := x_y.keep hb1; replace x_s := x_s.keep hb1; replace x_t := x_t.keep hb1; replace x_m := x_m.keep hb1; replace hT := hT.keep hb1; replace za := za.keep hb1; replace zb := zb.keep hb1; replace zc := zc.keep hb1; replace zd := zd.keep hb1; replace zi := zi.keep hb1; replace zj := zj.keep hb1; replace z1_s := z1_s.keep hb1; replace z2_s := z2_s.keep hb1; replace z1_t := z1_t.keep hb1; replace z2_t := z2_t.keep hb1; replace z1_m := z1_m.keep hb1; replace z2_m := z2_m.keep hb1; replace hb := bthen hb hb1; clear hb1; clear q_a0 f_a0 q_a1 f_a1 q_a2 f_a2 q_a3 f_a3 q_a4 f_a4; obtain ⟨q_a0, f_a0, q_a1, f_a1, q_a2, f_a2, q_a3, f_a3, q_a4, f_a4⟩ := x_a.al; clear q_b0 f_b0 q_b1 f_b1 q_b2 f_b2 q_b3 f_b3 q_b4 f_b4; obtain ⟨q_b0, f_b0, q_b1, f_b1, q_b2, f_b2, q_b3, f_b3, q_b4, f_b4⟩ := x_b.al; clear q_x0 f_x0 q_x1 f_x1 q_x2 f_x2; obtain ⟨q_x0, f_x0, q_x1, f_x1, q_x2, f_x2⟩ := x_x.al; clear q_y0 f_y0 q_y1 f_y1 q_y2 f_y2; obtain ⟨q_y0, f_y0, q_y1, f_y1, q_y2, f_y2⟩ := x_y.al; clear q_s0 f_s0 q_s1 f_s1 q_s2 f_s2 q_s3 f_s3 q_s4 f_s4; obtain ⟨q_s0, f_s0, q_s1, f_s1, q_s2, f_s2, q_s3, f_s3, q_s4, f_s4⟩ := x_s.al; clear q_t0 f_t0 q_t1 f_t1 q_t2 f_t2 q_t3 f_t3 q_t4 f_t4; obtain ⟨q_t0, f_t0, q_t1, f_t1, q_t2, f_t2, q_t3, f_t3, q_t4, f_t4⟩ := x_t.al; clear q_m0 f_m0 q_m1 f_m1 q_m2 f_m2 q_m3 f_m3 q_m4 f_m4; obtain ⟨q_m0, f_m0, q_m1, f_m1, q_m2, f_m2, q_m3, f_m3, q_m4, f_m4⟩ := x_m.al; rw [HT2.out]) | (go_at_call 13; (with_reducible refine (DAdd_any zi.zr zj.zr hT 138 (by omega) (by omega) (by omega)).mono ?_); rintro e v19 ⟨A13, n13, c13, rfl, zs, hb1⟩; replace x_a := x_a.keep hb1; replace x_b := x_b.keep hb1; replace x_x := x_x.keep hb1; replace x_y := x_y.keep hb1; replace x_s := x_s.keep hb1; replace x_t := x_t.keep hb1; replace x_m := x_m.keep hb1; replace hT := hT.keep hb1; replace za := za.keep hb1; replace zb := zb.keep hb1; replace zc := zc.keep hb1; replace zd := zd.keep hb1; replace zi := zi.keep hb1; replace zj := zj.keep hb1; replace z1_s := z1_s.keep hb1; replace z2_s := z2_s.keep hb1; replace z1_t := z1_t.keep hb1; replace z2_t := z2_t.keep hb1; replace z1_m := z1_m.keep hb1; replace z2_m := z2_m.keep hb1; replace hb := bthen hb hb1; clear hb1; clear q_a0 f_a0 q_a1 f_a1 q_a2 f_a2 q_a3 f_a3 q_a4 f_a4; obtain ⟨q_a0, f_a0, q_a1, f_a1, q_a2, f_a2, q_a3, f_a3, q_a4, f_a4⟩ := x_a.al; clear q_b0 f_b0 q_b1 f_b1 q_b2 f_b2 q_b3 f_b3 q_b4 f_b4; obtain ⟨q_b0, f_b0, q_b1, f_b1, q_b2, f_b2, q_b3, f_b3, q_b4, f_b4⟩ := x_b.al; clear q_x0 f_x0 q_x1 f_x1 q_x2 f_x2; obtain ⟨q_x0, f_x0, q_x1, f_x1, q_x2, f_x2⟩ := x_x.al; clear q_y0 f_y0 q_y1 f_y1 q_y2 f_y2; obtain ⟨q_y0, f_y0, q_y1, f_y1, q_y2, f_y2⟩ := x_y.al; clear q_s0 f_s0 q_s1 f_s1 q_s2 f_s2 q_s3 f_s3 q_s4 f_s4; obtain ⟨q_s0, f_s0, q_s1, f_s1, q_s2, f_s2, q_s3, f_s3, q_s4, f_s4⟩ := x_s.al; clear q_t0 f_t0 q_t1 f_t1 q_t2 f_t2 q_t3 f_t3 q_t4 f_t4; obtain ⟨q_t0, f_t0, q_t1, f_t1, q_t2, f_t2, q_t3, f_t3, q_t4, f_t4⟩ := x_t.al; clear q_m0 f_m0 q_m1 f_m1 q_m2 f_m2 q_m3 f_m3 q_m4 f_m4; obtain ⟨q_m0, f_m0, q_m1, f_m1, q_m2, f_m2, q_m3, f_m3, q_m4, f_m4⟩ := x_m.al; rw [HS1.out.1] at zs; rw [HS1.out.1, HS1.out.2]) | (go_at_call 12; (with_reducible refine (Has_any z1_s.zr z2_s.zr zs.zr (by omega) (by omega) (by omega)).mono ?_); rintro e v20 ⟨rfl, hb1⟩; replace x_a := x_a.keep hb1; replace x_b := x_b.keep hb1; replace x_x := x_x.keep hb1; replace x_y := x_y.keep hb1; replace x_s := x_s.keep hb1; replace x_t := x_t.keep hb1; replace x_m := x_m.keep hb1; replace hT := hT.keep hb1; replace za := za.keep hb1; replace zb := zb.keep hb1; replace zc := zc.keep hb1; replace zd := zd.keep hb1; replace zi := zi.keep hb1; replace zj := zj.keep hb1; replace z1_s := z1_s.keep hb1; replace z2_s := z2_s.keep hb1; replace z1_t := z1_t.keep hb1; replace z2_t := z2_t.keep hb1; replace z1_m := z1_m.keep hb1; replace z2_m := z2_m.keep hb1; replace zs := zs.keep hb1; replace hb := bthen hb hb1; clear hb1; clear q_a0 f_a0 q_a1 f_a1 q_a2 f_a2 q_a3 f_a3 q_a4 f_a4; obtain ⟨q_a0, f_a0, q_a1, f_a1, q_a2, f_a2, q_a3, f_a3, q_a4, f_a4⟩ := x_a.al; clear q_b0 f_b0 q_b1 f_b1 q_b2 f_b2 q_b3 f_b3 q_b4 f_b4; obtain ⟨q_b0, f_b0, q_b1, f_b1, q_b2, f_b2, q_b3, f_b3, q_b4, f_b4⟩ := x_b.al; clear q_x0 f_x0 q_x1 f_x1 q_x2 f_x2; obtain ⟨q_x0, f_x0, q_x1, f_x1, q_x2, f_x2⟩ := x_x.al; clear q_y0 f_y0 q_y1 f_y1 q_y2 f_y2; obtain ⟨q_y0, f_y0, q_y1, f_y1, q_y2, f_y2⟩ := x_y.al; clear q_s0 f_s0 q_s1 f_s1 q_s2 f_s2 q_s3 f_s3 q_s4 f_s4; obtain ⟨q_s0, f_s0, q_s1, f_s1, q_s2, f_s2, q_s3, f_s3, q_s4, f_s4⟩ := x_s.al; clear q_t0 f_t0 q_t1 f_t1 q_t2 f_t2 q_t3 f_t3 q_t4 f_t4; obtain ⟨q_t0, f_t0, q_t1, f_t1, q_t2, f_t2, q_t3, f_t3, q_t4, f_t4⟩ := x_t.al; clear q_m0 f_m0 q_m1 f_m1 q_m2 f_m2 q_m3 f_m3 q_m4 f_m4; obtain ⟨q_m0, f_m0, q_m1, f_m1, q_m2, f_m2, q_m3, f_m3, q_m4, f_m4⟩ := x_m.al; rw [HT3.out]) | (go_at_call 14; (with_reducible refine (DSub_any zi.zr zj.zr hT 138 (by omega) (by omega) (by omega)).mono ?_); rintro e v21 ⟨A14, n14, c14, rfl, zt, hb1⟩; replace x_a := x_a.keep hb1; replace x_b := x_b.keep hb1; replace x_x := x_x.keep hb1; replace x_y := x_y.keep hb1; replace x_s := x_s.keep hb1; replace x_t := x_t.keep hb1; replace x_m := x_m.keep hb1; replace hT := hT.keep hb1; replace za := za.keep hb1; replace zb := zb.keep hb1; replace zc := zc.keep hb1; replace zd := zd.keep hb1; replace zi := zi.keep hb1; replace zj := zj.keep hb1; replace z1_s := z1_s.keep hb1; replace z2_s := z2_s.keep hb1; replace z1_t := z1_t.keep hb1; replace z2_t := z2_t.keep hb1; replace z1_m := z1_m.keep hb1; replace z2_m := z2_m.keep hb1; replace zs := zs.keep hb1; replace hb := bthen hb hb1; clear hb1; clear q_a0 f_a0 q_a1 f_a1 q_a2 f_a2 q_a3 f_a3 q_a4 f_a4; obtain ⟨q_a0, f_a0, q_a1, f_a1, q_a2, f_a2, q_a3, f_a3, q_a4, f_a4⟩ := x_a.al; clear q_b0 f_b0 q_b1 f_b1 q_b2 f_b2 q_b3 f_b3 q_b4 f_b4; obtain ⟨q_b0, f_b0, q_b1, f_b1, q_b2, f_b2, q_b3, f_b3, q_b4, f_b4⟩ := x_b.al; clear q_x0 f_x0 q_x1 f_x1 q_x2 f_x2; obtain ⟨q_x0, f_x0, q_x1, f_x1, q_x2, f_x2⟩ := x_x.al; clear q_y0 f_y0 q_y1 f_y1 q_y2 f_y2; obtain ⟨q_y0, f_y0, q_y1, f_y1, q_y2, f_y2⟩ := x_y.al; clear q_s0 f_s0 q_s1 f_s1 q_s2 f_s2 q_s3 f_s3 q_s4 f_s4; obtain ⟨q_s0, f_s0, q_s1, f_s1, q_s2, f_s2, q_s3, f_s3, q_s4, f_s4⟩ := x_s.al; clear q_t0 f_t0 q_t1 f_t1 q_t2 f_t2 q_t3 f_t3 q_t4 f_t4; obtain ⟨q_t0, f_t0, q_t1, f_t1, q_t2, f_t2, q_t3, f_t3, q_t4, f_t4⟩ := x_t.al; clear q_m0 f_m0 q_m1 f_m1 q_m2 f_m2 q_m3 f_m3 q_m4 f_m4; obtain ⟨q_m0, f_m0, q_m1, f_m1, q_m2, f_m2, q_m3, f_m3, q_m4, f_m4⟩ := x_m.al; rw [HS2.out.1] at zt; rw [HS2.out.1, HS2.out.2]) | (go_at_call 12; (with_reducible refine (Has_any z1_t.zr z2_t.zr zt.zr (by omega) (by omega) (by omega)).mono ?_); rintro e v22 ⟨rfl, hb1⟩; replace x_a := x_a.keep hb1; replace x_b := x_b.keep hb1; replace x_x := x_x.keep hb1; replace x_y := x_y.keep hb1; replace x_s := x_s.keep hb1; replace x_t := x_t.keep hb1; replace x_m := x_m.keep hb1; replace hT := hT.keep hb1; replace za := za.keep hb1; replace zb := zb.keep hb1; replace zc := zc.keep hb1; replace zd := zd.keep hb1; replace zi := zi.keep hb1; replace zj := zj.keep hb1; replace z1_s := z1_s.keep hb1; replace z2_s := z2_s.keep hb1; replace z1_t := z1_t.keep hb1; replace z2_t := z2_t.keep hb1; replace z1_m := z1_m.keep hb1; replace z2_m := z2_m.keep hb1; replace zs := zs.keep hb1; replace zt := zt.keep hb1; replace hb := bthen hb hb1; clear hb1; clear q_a0 f_a0 q_a1 f_a1 q_a2 f_a2 q_a3 f_a3 q_a4 f_a4; obtain ⟨q_a0, f_a0, q_a1, f_a1, q_a2, f_a2, q_a3, f_a3, q_a4, f_a4⟩ := x_a.al; clear q_b0 f_b0 q_b1 f_b1 q_b2 f_b2 q_b3 f_b3 q_b4 f_b4; obtain ⟨q_b0, f_b0, q_b1, f_b1, q_b2, f_b2, q_b3, f_b3, q_b4, f_b4⟩ := x_b.al; clear q_x0 f_x0 q_x1 f_x1 q_x2 f_x2; obtain ⟨q_x0, f_x0, q_x1, f_x1, q_x2, f_x2⟩ := x_x.al; clear q_y0 f_y0 q_y1 f_y1 q_y2 f_y2; obtain ⟨q_y0, f_y0, q_y1, f_y1, q_y2, f_y2⟩ := x_y.al; clear q_s0 f_s0 q_s1 f_s1 q_s2 f_s2 q_s3 f_s3 q_s4 f_s4; obtain ⟨q_s0, f_s0, q_s1, f_s1, q_s2, f_s2, q_s3, f_s3, q_s4, f_s4⟩ := x_s.al; clear q_t0 f_t0 q_t1 f_t1 q_t2 f_t2 q_t3 f_t3 q_t4 f_t4; obtain ⟨q_t0, f_t0, q_t1, f_t1, q_t2, f_t2, q_t3, f_t3, q_t4, f_t4⟩ := x_t.al; clear q_m0 f_m0 q_m1 f_m1 q_m2 f_m2 q_m3 f_m3 q_m4 f_m4; obtain ⟨q_m0, f_m0, q_m1, f_m1, q_m2, f_m2, q_m3, f_m3, q_m4, f_m4⟩ := x_m.al; rw [HT4.out]) | (go_at_call 15; (with_reducible refine (DMul_any zi.zr zj.zr hT 18 (by omega) (by omega)).mono ?_); rintro e v23 ⟨A15, n15, c15, rfl, zu, hb1⟩; replace x_a := x_a.keep hb1; replace x_b := x_b.keep hb1; replace x_x := x_x.keep hb1; replace x_y := x_y.keep hb1; replace x_s := x_s.keep hb1; replace x_t := x_t.keep hb1; replace x_m := x_m.keep hb1; replace hT := hT.keep hb1; replace za := za.keep hb1; replace zb := zb.keep hb1; replace zc := zc.keep hb1; replace zd := zd.keep hb1; replace zi := zi.keep hb1; replace zj := zj.keep hb1; replace z1_s := z1_s.keep hb1; replace z2_s := z2_s.keep hb1; replace z1_t := z1_t.keep hb1; replace z2_t := z2_t.keep hb1; replace z1_m := z1_m.keep hb1; replace z2_m := z2_m.keep hb1; replace zs := zs.keep hb1; replace zt := zt.keep hb1; replace hb := bthen hb hb1; clear hb1; clear q_a0 f_a0 q_a1 f_a1 q_a2 f_a2 q_a3 f_a3 q_a4 f_a4; obtain ⟨q_a0, f_a0, q_a1, f_a1, q_a2, f_a2, q_a3, f_a3, q_a4, f_a4⟩ := x_a.al; clear q_b0 f_b0 q_b1 f_b1 q_b2 f_b2 q_b3 f_b3 q_b4 f_b4; obtain ⟨q_b0, f_b0, q_b1, f_b1, q_b2, f_b2, q_b3, f_b3, q_b4, f_b4⟩ := x_b.al; clear q_x0 f_x0 q_x1 f_x1 q_x2 f_x2; obtain ⟨q_x0, f_x0, q_x1, f_x1, q_x2, f_x2⟩ := x_x.al; clear q_y0 f_y0 q_y1 f_y1 q_y2 f_y2; obtain ⟨q_y0, f_y0, q_y1, f_y1, q_y2, f_y2⟩ := x_y.al; clear q_s0 f_s0 q_s1 f_s1 q_s2 f_s2 q_s3 f_s3 q_s4 f_s4; obtain ⟨q_s0, f_s0, q_s1, f_s1, q_s2, f_s2, q_s3, f_s3, q_s4, f_s4⟩ := x_s.al; clear q_t0 f_t0 q_t1 f_t1 q_t2 f_t2 q_t3 f_t3 q_t4 f_t4; obtain ⟨q_t0, f_t0, q_t1, f_t1, q_t2, f_t2, q_t3, f_t3, q_t4, f_t4⟩ := x_t.al; clear q_m0 f_m0 q_m1 f_m1 q_m2 f_m2 q_m3 f_m3 q_m4 f_m4; obtain ⟨q_m0, f_m0, q_m1, f_m1, q_m2, f_m2, q_m3, f_m3, q_m4, f_m4⟩ := x_m.al; rw [HS3.out.1] at zu; rw [HS3.out.1, HS3.out.2]) | (go_at_call 12; (with_reducible refine (Has_any z1_m.zr z2_m.zr zu.zr (by omega) (by omega) (by omega)).mono ?_); rintro e v24 ⟨rfl, hb1⟩; replace x_a := x_a.keep hb1; replace x_b := x_b.keep hb1; replace x_x := x_x.keep hb1; replace x_y := x_y.keep hb1; replace x_s := x_s.keep hb1; replace x_t := x_t.keep hb1; replace x_m := x_m.keep hb1; replace hT := hT.keep hb1; replace za := za.keep hb1; replace zb := zb.keep hb1; replace zc := zc.keep hb1; replace zd := zd.keep hb1; replace zi := zi.keep hb1; replace zj := zj.keep hb1; replace z1_s := z1_s.keep hb1; replace z2_s := z2_s.keep hb1; replace z1_t := z1_t.keep hb1; replace z2_t := z2_t.keep hb1; replace z1_m := z1_m.keep hb1; replace z2_m := z2_m.keep hb1; replace zs := zs.keep hb1; replace zt := zt.keep hb1; replace zu := zu.keep hb1; replace hb := bthen hb hb1; clear hb1; clear q_a0 f_a0 q_a1 f_a1 q_a2 f_a2 q_a3 f_a3 q_a4 f_a4; obtain ⟨q_a0, f_a0, q_a1, f_a1, q_a2, f_a2, q_a3, f_a3, q_a4, f_a4⟩ := x_a.al; clear q_b0 f_b0 q_b1 f_b1 q_b2 f_b2 q_b3 f_b3 q_b4 f_b4; obtain ⟨q_b0, f_b0, q_b1, f_b1, q_b2, f_b2, q_b3, f_b3, q_b4, f_b4⟩ := x_b.al; clear q_x0 f_x0 q_x1 f_x1 q_x2 f_x2; obtain ⟨q_x0, f_x0, q_x1, f_x1, q_x2, f_x2⟩ := x_x.al; clear q_y0 f_y0 q_y1 f_y1 q_y2 f_y2; obtain ⟨q_y0, f_y0, q_y1, f_y1, q_y2, f_y2⟩ := x_y.al; clear q_s0 f_s0 q_s1 f_s1 q_s2 f_s2 q_s3 f_s3 q_s4 f_s4; obtain ⟨q_s0, f_s0, q_s1, f_s1, q_s2, f_s2, q_s3, f_s3, q_s4, f_s4⟩ := x_s.al; clear q_t0 f_t0 q_t1 f_t1 q_t2 f_t2 q_t3 f_t3 q_t4 f_t4; obtain ⟨q_t0, f_t0, q_t1, f_t1, q_t2, f_t2, q_t3, f_t3, q_t4, f_t4⟩ := x_t.al; clear q_m0 f_m0 q_m1 f_m1 q_m2 f_m2 q_m3 f_m3 q_m4 f_m4; obtain ⟨q_m0, f_m0, q_m1, f_m1, q_m2, f_m2, q_m3, f_m3, q_m4, f_m4⟩ := x_m.al; rw [HT5.out]))
  go_wp2_with fail
  clear zs zt zu z1_s z2_s z1_t z2_t z1_m z2_m
  clear q_s0 f_s0 q_s1 f_s1 q_s2 f_s2 q_s3 f_s3 q_s4 f_s4
  clear q_t0 f_t0 q_t1 f_t1 q_t2 f_t2 q_t3 f_t3 q_t4 f_t4
  clear q_m0 f_m0 q_m1 f_m1 q_m2 f_m2 q_m3 f_m3 q_m4 f_m4
  clear q_y0 f_y0 q_y1 f_y1 q_y2 f_y2
  by_cases h0 : U ≤ 0 ∧ 0 ≤ V
  · have HZ1 : Hid (hasB U V Q0 0 0 = true) := Lib.hid (HZ.out.trans (decide_eq_true h0))
    skip
    with_reducible refine (LDiv_zero za zb zc zd ⟨hq2.1, hq2.2, HXY.out⟩ HUV.out h0 (by omega) (by omega) (by omega) (by omega)).mono ?_
    rintro e v25 ⟨rfl, hb1⟩
    replace x_a := x_a.keep hb1
    replace x_b := x_b.keep hb1
    replace x_x := x_x.keep hb1
    replace x_y := x_y.keep hb1
    replace x_s := x_s.keep hb1
    replace x_t := x_t.keep hb1
    replace x_m := x_m.keep hb1
    replace hT := hT.keep hb1
    replace za := za.keep hb1
    replace zb := zb.keep hb1
    replace zc := zc.keep hb1
    replace zd := zd.keep hb1
    replace zi := zi.keep hb1
    replace zj := zj.keep hb1
    replace hb := bthen hb hb1
    clear hb1
    clear q_a0 f_a0 q_a1 f_a1 q_a2 f_a2 q_a3 f_a3 q_a4 f_a4; obtain ⟨q_a0, f_a0, q_a1, f_a1, q_a2, f_a2, q_a3, f_a3, q_a4, f_a4⟩ := x_a.al
    clear q_b0 f_b0 q_b1 f_b1 q_b2 f_b2 q_b3 f_b3 q_b4 f_b4; obtain ⟨q_b0, f_b0, q_b1, f_b1, q_b2, f_b2, q_b3, f_b3, q_b4, f_b4⟩ := x_b.al
    clear q_x0 f_x0 q_x1 f_x1 q_x2 f_x2; obtain ⟨q_x0, f_x0, q_x1, f_x1, q_x2, f_x2⟩ := x_x.al
    have y_a := (x_a.alloc (.cells #[.bool false, .slice none 0 0, .bool false, .slice none 0 0, .int .i64 0] 26)); have yq_a0 := y_a.c0; have yq_a1 := y_a.c1; have yq_a2 := y_a.c2; have yq_a3 := y_a.c3; have yq_a4 := y_a.c4
    have y_b := (x_b.alloc (.cells #[.bool false, .slice none 0 0, .bool false, .slice none 0 0, .int .i64 0] 26)); have yq_b0 := y_b.c0; have yq_b1 := y_b.c1; have yq_b2 := y_b.c2; have yq_b3 := y_b.c3; have yq_b4 := y_b.c4
    have y_x := (x_x.alloc (.cells #[.bool false, .slice none 0 0, .bool false, .slice none 0 0, .int .i64 0] 26)); have yq_x0 := y_x.c0; have yq_x1 := y_x.c1; have yq_x2 := y_x.c2
    go_wp2_with fail
    clear y_a yq_a0 yq_a1 yq_a2 yq_a3 yq_a4 y_b yq_b0 yq_b1 yq_b2 yq_b3 yq_b4 y_x yq_x0 yq_x1 yq_x2
    have hb1 := below_alloc v25 (.cells #[.bool false, .slice none 0 0, .bool false, .slice none 0 0, .int .i64 0] 26)
    have l_a_d := x_a.lt
    have l_b_d := x_b.lt
    have l_x_d := x_x.lt
    have l_y_d := x_y.lt
    have l_s_d := x_s.lt
    have l_t_d := x_t.lt
    have l_m_d := x_m.lt
    have x_d := Lx.new v25 false none 0 0 false none 0 0 0
    have e_d : w.heap.size ≤ v25.heap.size := hb.size
    clear q_a0 f_a0 q_a1 f_a1 q_a2 f_a2 q_a3 f_a3 q_a4 f_a4 q_b0 f_b0 q_b1 f_b1 q_b2 f_b2 q_b3 f_b3 q_b4 f_b4 q_x0 f_x0 q_x1 f_x1 q_x2 f_x2
    replace x_a := x_a.keep hb1
    replace x_b := x_b.keep hb1
    replace x_x := x_x.keep hb1
    replace x_y := x_y.keep hb1
    replace x_s := x_s.keep hb1
    replace x_t := x_t.keep hb1
    replace x_m := x_m.keep hb1
    replace hT := hT.keep hb1
    replace za := za.keep hb1
    replace zb := zb.keep hb1
    replace zc := zc.keep hb1
    replace zd := zd.keep hb1
    replace zi := zi.keep hb1
    replace zj := zj.keep hb1
    replace hb := bthen hb hb1
    clear hb1
    generalize v25.alloc (.cells #[.bool false, .slice none 0 0, .bool false, .slice none 0 0, .int .i64 0] 26) = v26 at *
    obtain ⟨q_a0, f_a0, q_a1, f_a1, q_a2, f_a2, q_a3, f_a3, q_a4, f_a4⟩ := x_a.al
    obtain ⟨q_b0, f_b0, q_b1, f_b1, q_b2, f_b2, q_b3, f_b3, q_b4, f_b4⟩ := x_b.al
    obtain ⟨q_x0, f_x0, q_x1, f_x1, q_x2, f_x2⟩ := x_x.al
    obtain ⟨q_d0, f_d0, q_d1, f_d1, q_d2, f_d2, q_d3, f_d3, q_d4, f_d4⟩ := x_d.al
    clear h0
    skip
    with_reducible refine (Has_any (e := 0) zc zd (Zr.nil0 _ 0) (by omega) (by omega) (by omega)).mono ?_
    rintro e v27 ⟨rfl, hb1⟩
    replace x_a := x_a.keep hb1
    replace x_b := x_b.keep hb1
    replace x_x := x_x.keep hb1
    replace x_y := x_y.keep hb1
    replace x_s := x_s.keep hb1
    replace x_t := x_t.keep hb1
    replace x_m := x_m.keep hb1
    replace x_d := x_d.keep hb1
    replace hT := hT.keep hb1
    replace za := za.keep hb1
    replace zb := zb.keep hb1
    replace zc := zc.keep hb1
    replace zd := zd.keep hb1
    replace zi := zi.keep hb1
    replace zj := zj.keep hb1
    replace hb := bthen hb hb1
    clear hb1
    clear q_a0 f_a0 q_a1 f_a1 q_a2 f_a2 q_a3 f_a3 q_a4 f_a4; obtain ⟨q_a0, f_a0, q_a1, f_a1, q_a2, f_a2, q_a3, f_a3, q_a4, f_a4⟩ := x_a.al
    clear q_b0 f_b0 q_b1 f_b1 q_b2 f_b2 q_b3 f_b3 q_b4 f_b4; obtain ⟨q_b0, f_b0, q_b1, f_b1, q_b2, f_b2, q_b3, f_b3, q_b4, f_b4⟩ := x_b.al
    clear q_x0 f_x0 q_x1 f_x1 q_x2 f_x2; obtain ⟨q_x0, f_x0, q_x1, f_x1, q_x2, f_x2⟩ := x_x.al
    clear q_d0 f_d0 q_d1 f_d1 q_d2 f_d2 q_d3 f_d3 q_d4 f_d4; obtain ⟨q_d0, f_d0, q_d1, f_d1, q_d2, f_d2, q_d3, f_d3, q_d4, f_d4⟩ := x_d.al
    rw [HZ1.out]
    go_wp2
    go_ret
    exact ⟨rfl, hb⟩
  · have HZ1 : Hid (hasB U V Q0 0 0 = false) := Lib.hid (HZ.out.trans (dec_no h0))
    have huv := HUV.out
    have hU : U ≠ 0 := by omega
    have hV : V ≠ 0 := by omega
    clear huv
    obtain ⟨Dl, hDl⟩ : ∃ M, mn4 (fun x y => fdI (x * 2 ^ Q0.toNat) y) X Y U V = M := ⟨_, rfl⟩
    obtain ⟨Dh, hDh⟩ : ∃ M, mx4 (fun x y => cdI (x * 2 ^ Q0.toNat) y) X Y U V = M := ⟨_, rfl⟩
    obtain ⟨hDD, hT6⟩ := HTD.out hU Dl Dh hDl hDh
    obtain ⟨Nl, hNl⟩ : ∃ M, mn4 (fun x y => flI (x * y) (-Q0)) Dl Dh U V = M := ⟨_, rfl⟩
    obtain ⟨Nh, hNh⟩ : ∃ M, mx4 (fun x y => -flI (-(x * y)) (-Q0)) Dl Dh U V = M := ⟨_, rfl⟩
    rw [hNl, hNh] at hT6
    have HDL := Lib.hid hDl; have HDH := Lib.hid hDh; have HNL := Lib.hid hNl; have HNH := Lib.hid hNh; have HT6 := Lib.hid hT6; have HDD := Lib.hid hDD; have H0 := Lib.hid (And.intro hU (And.intro hV h0)); clear hDl hDh hNl hNh hT6 hDD hU hV h0
    skip
    with_reducible refine (LDiv_any za zb zc zd ⟨hq2.1, hq2.2, HXY.out⟩ HUV.out H0.out 4 (Nat.le_refl _) (Nat.le_refl _) (Nat.le_refl _) (Nat.le_refl _) 134 (by omega) (by omega)).mono ?_
    rintro e v25 ⟨A16, n16, c16, A17, n17, c17, rfl, z16, z17, hb1⟩
    replace x_a := x_a.keep hb1
    replace x_b := x_b.keep hb1
    replace x_x := x_x.keep hb1
    replace x_y := x_y.keep hb1
    replace x_s := x_s.keep hb1
    replace x_t := x_t.keep hb1
    replace x_m := x_m.keep hb1
    replace hT := hT.keep hb1
    replace za := za.keep hb1
    replace zb := zb.keep hb1
    replace zc := zc.keep hb1
    replace zd := zd.keep hb1
    replace zi := zi.keep hb1
    replace zj := zj.keep hb1
    replace hb := bthen hb hb1
    clear hb1
    clear q_a0 f_a0 q_a1 f_a1 q_a2 f_a2 q_a3 f_a3 q_a4 f_a4; obtain ⟨q_a0, f_a0, q_a1, f_a1, q_a2, f_a2, q_a3, f_a3, q_a4, f_a4⟩ := x_a.al
    clear q_b0 f_b0 q_b1 f_b1 q_b2 f_b2 q_b3 f_b3 q_b4 f_b4; obtain ⟨q_b0, f_b0, q_b1, f_b1, q_b2, f_b2, q_b3, f_b3, q_b4, f_b4⟩ := x_b.al
    clear q_x0 f_x0 q_x1 f_x1 q_x2 f_x2; obtain ⟨q_x0, f_x0, q_x1, f_x1, q_x2, f_x2⟩ := x_x.al
    rw [HDL.out] at z16
    rw [HDH.out] at z17
    rw [HDL.out, HDH.out]
    have y_a := (x_a.alloc (.cells #[.bool (ngB Dl), .slice A16 n16 c16, .bool (ngB Dh), .slice A17 n17 c17, .int .i64 Q0] 26)); have yq_a0 := y_a.c0; have yq_a1 := y_a.c1; have yq_a2 := y_a.c2; have yq_a3 := y_a.c3; have yq_a4 := y_a.c4
    have y_b := (x_b.alloc (.cells #[.bool (ngB Dl), .slice A16 n16 c16, .bool (ngB Dh), .slice A17 n17 c17, .int .i64 Q0] 26)); have yq_b0 := y_b.c0; have yq_b1 := y_b.c1; have yq_b2 := y_b.c2; have yq_b3 := y_b.c3; have yq_b4 := y_b.c4
    have y_x := (x_x.alloc (.cells #[.bool (ngB Dl), .slice A16 n16 c16, .bool (ngB Dh), .slice A17 n17 c17, .int .i64 Q0] 26)); have yq_x0 := y_x.c0; have yq_x1 := y_x.c1; have yq_x2 := y_x.c2
    go_wp2_with fail
    clear y_a yq_a0 yq_a1 yq_a2 yq_a3 yq_a4 y_b yq_b0 yq_b1 yq_b2 yq_b3 yq_b4 y_x yq_x0 yq_x1 yq_x2
    have hb1 := below_alloc v25 (.cells #[.bool (ngB Dl), .slice A16 n16 c16, .bool (ngB Dh), .slice A17 n17 c17, .int .i64 Q0] 26)
    have l_a_d := x_a.lt
    have l_b_d := x_b.lt
    have l_x_d := x_x.lt
    have l_y_d := x_y.lt
    have l_s_d := x_s.lt
    have l_t_d := x_t.lt
    have l_m_d := x_m.lt
    have x_d := Lx.new v25 (ngB Dl) A16 n16 c16 (ngB Dh) A17 n17 c17 Q0
    have e_d : w.heap.size ≤ v25.heap.size := hb.size
    clear q_a0 f_a0 q_a1 f_a1 q_a2 f_a2 q_a3 f_a3 q_a4 f_a4 q_b0 f_b0 q_b1 f_b1 q_b2 f_b2 q_b3 f_b3 q_b4 f_b4 q_x0 f_x0 q_x1 f_x1 q_x2 f_x2
    replace x_a := x_a.keep hb1
    replace x_b := x_b.keep hb1
    replace x_x := x_x.keep hb1
    replace x_y := x_y.keep hb1
    replace x_s := x_s.keep hb1
    replace x_t := x_t.keep hb1
    replace x_m := x_m.keep hb1
    replace hT := hT.keep hb1
    replace za := za.keep hb1
    replace zb := zb.keep hb1
    replace zc := zc.keep hb1
    replace zd := zd.keep hb1
    replace zi := zi.keep hb1
    replace zj := zj.keep hb1
    replace z16 := z16.keep hb1
    replace z17 := z17.keep hb1
    replace hb := bthen hb hb1
    clear hb1
    generalize v25.alloc (.cells #[.bool (ngB Dl), .slice A16 n16 c16, .bool (ngB Dh), .slice A17 n17 c17, .int .i64 Q0] 26) = v26 at *
    obtain ⟨q_a0, f_a0, q_a1, f_a1, q_a2, f_a2, q_a3, f_a3, q_a4, f_a4⟩ := x_a.al
    obtain ⟨q_b0, f_b0, q_b1, f_b1, q_b2, f_b2, q_b3, f_b3, q_b4, f_b4⟩ := x_b.al
    obtain ⟨q_x0, f_x0, q_x1, f_x1, q_x2, f_x2⟩ := x_x.al
    obtain ⟨q_d0, f_d0, q_d1, f_d1, q_d2, f_d2, q_d3, f_d3, q_d4, f_d4⟩ := x_d.al
    skip
    with_reducible refine (Has_any (e := 0) zc zd (Zr.nil0 _ 0) (by omega) (by omega) (by omega)).mono ?_
    rintro e v27 ⟨rfl, hb1⟩
    replace x_a := x_a.keep hb1
    replace x_b := x_b.keep hb1
    replace x_x := x_x.keep hb1
    replace x_y := x_y.keep hb1
    replace x_s := x_s.keep hb1
    replace x_t := x_t.keep hb1
    replace x_m := x_m.keep hb1
    replace x_d := x_d.keep hb1
    replace hT := hT.keep hb1
    replace za := za.keep hb1
    replace zb := zb.keep hb1
    replace zc := zc.keep hb1
    replace zd := zd.keep hb1
    replace zi := zi.keep hb1
    replace zj := zj.keep hb1
    replace z16 := z16.keep hb1
    replace z17 := z17.keep hb1
    replace hb := bthen hb hb1
    clear hb1
    clear q_a0 f_a0 q_a1 f_a1 q_a2 f_a2 q_a3 f_a3 q_a4 f_a4; obtain ⟨q_a0, f_a0, q_a1, f_a1, q_a2, f_a2, q_a3, f_a3, q_a4, f_a4⟩ := x_a.al
    clear q_b0 f_b0 q_b1 f_b1 q_b2 f_b2 q_b3 f_b3 q_b4 f_b4; obtain ⟨q_b0, f_b0, q_b1, f_b1, q_b2, f_b2, q_b3, f_b3, q_b4, f_b4⟩ := x_b.al
    clear q_x0 f_x0 q_x1 f_x1 q_x2 f_x2; obtain ⟨q_x0, f_x0, q_x1, f_x1, q_x2, f_x2⟩ := x_x.al
    clear q_d0 f_d0 q_d1 f_d1 q_d2 f_d2 q_d3 f_d3 q_d4 f_d4; obtain ⟨q_d0, f_d0, q_d1, f_d1, q_d2, f_d2, q_d3, f_d3, q_d4, f_d4⟩ := x_d.al
    rw [HZ1.out]
    go_wp2_with fail
    with_reducible refine (LMul_any z16.zr z17.zr zc zd ⟨hq2.1, hq2.2, HDD.out⟩ HUV.out 134 (by omega) (by omega) (by omega) (by omega) 396 (by omega) (by omega)).mono ?_
    rintro e v28 ⟨A18, n18, c18, A19, n19, c19, rfl, z18, z19, hb1⟩
    replace x_a := x_a.keep hb1
    replace x_b := x_b.keep hb1
    replace x_x := x_x.keep hb1
    replace x_y := x_y.keep hb1
    replace x_s := x_s.keep hb1
    replace x_t := x_t.keep hb1
    replace x_m := x_m.keep hb1
    replace x_d := x_d.keep hb1
    replace hT := hT.keep hb1
    replace za := za.keep hb1
    replace zb := zb.keep hb1
    replace zc := zc.keep hb1
    replace zd := zd.keep hb1
    replace zi := zi.keep hb1
    replace zj := zj.keep hb1
    replace z16 := z16.keep hb1
    replace z17 := z17.keep hb1
    replace hb := bthen hb hb1
    clear hb1
    clear q_a0 f_a0 q_a1 f_a1 q_a2 f_a2 q_a3 f_a3 q_a4 f_a4; obtain ⟨q_a0, f_a0, q_a1, f_a1, q_a2, f_a2, q_a3, f_a3, q_a4, f_a4⟩ := x_a.al
    clear q_b0 f_b0 q_b1 f_b1 q_b2 f_b2 q_b3 f_b3 q_b4 f_b4; obtain ⟨q_b0, f_b0, q_b1, f_b1, q_b2, f_b2, q_b3, f_b3, q_b4, f_b4⟩ := x_b.al
    clear q_x0 f_x0 q_x1 f_x1 q_x2 f_x2; obtain ⟨q_x0, f_x0, q_x1, f_x1, q_x2, f_x2⟩ := x_x.al
    clear q_d0 f_d0 q_d1 f_d1 q_d2 f_d2 q_d3 f_d3 q_d4 f_d4; obtain ⟨q_d0, f_d0, q_d1, f_d1, q_d2, f_d2, q_d3, f_d3, q_d4, f_d4⟩ := x_d.al
    rw [HNL.out] at z18
    rw [HNH.out] at z19
    rw [HNL.out, HNH.out]
    have y_a := (x_a.alloc (.cells #[.bool (ngB Nl), .slice A18 n18 c18, .bool (ngB Nh), .slice A19 n19 c19, .int .i64 Q0] 26)); have yq_a0 := y_a.c0; have yq_a1 := y_a.c1; have yq_a2 := y_a.c2; have yq_a3 := y_a.c3; have yq_a4 := y_a.c4
    have y_b := (x_b.alloc (.cells #[.bool (ngB Nl), .slice A18 n18 c18, .bool (ngB Nh), .slice A19 n19 c19, .int .i64 Q0] 26)); have yq_b0 := y_b.c0; have yq_b1 := y_b.c1; have yq_b2 := y_b.c2; have yq_b3 := y_b.c3; have yq_b4 := y_b.c4
    have y_x := (x_x.alloc (.cells #[.bool (ngB Nl), .slice A18 n18 c18, .bool (ngB Nh), .slice A19 n19 c19, .int .i64 Q0] 26)); have yq_x0 := y_x.c0; have yq_x1 := y_x.c1; have yq_x2 := y_x.c2
    have y_d := (x_d.alloc (.cells #[.bool (ngB Nl), .slice A18 n18 c18, .bool (ngB Nh), .slice A19 n19 c19, .int .i64 Q0] 26)); have yq_d0 := y_d.c0; have yq_d1 := y_d.c1; have yq_d2 := y_d.c2; have yq_d3 := y_d.c3; have yq_d4 := y_d.c4
    go_wp2_with fail
    clear y_a yq_a0 yq_a1 yq_a2 yq_a3 yq_a4 y_b yq_b0 yq_b1 yq_b2 yq_b3 yq_b4 y_x yq_x0 yq_x1 yq_x2 y_d yq_d0 yq_d1 yq_d2 yq_d3 yq_d4
    have hb1 := below_alloc v28 (.cells #[.bool (ngB Nl), .slice A18 n18 c18, .bool (ngB Nh), .slice A19 n19 c19, .int .i64 Q0] 26)
    have l_a_o := x_a.lt
    have l_b_o := x_b.lt
    have l_x_o := x_x.lt
    have l_y_o := x_y.lt
    have l_s_o := x_s.lt
    have l_t_o := x_t.lt
    have l_m_o := x_m.lt
    have l_d_o := x_d.lt
    have x_o := Lx.new v28 (ngB Nl) A18 n18 c18 (ngB Nh) A19 n19 c19 Q0
    have e_o : w.heap.size ≤ v28.heap.size := hb.size
    clear q_a0 f_a0 q_a1 f_a1 q_a2 f_a2 q_a3 f_a3 q_a4 f_a4 q_b0 f_b0 q_b1 f_b1 q_b2 f_b2 q_b3 f_b3 q_b4 f_b4 q_x0 f_x0 q_x1 f_x1 q_x2 f_x2 q_d0 f_d0 q_d1 f_d1 q_d2 f_d2 q_d3 f_d3 q_d4 f_d4
    replace x_a := x_a.keep hb1
    replace x_b := x_b.keep hb1
    replace x_x := x_x.keep hb1
    replace x_y := x_y.keep hb1
    replace x_s := x_s.keep hb1
    replace x_t := x_t.keep hb1
    replace x_m := x_m.keep hb1
    replace x_d := x_d.keep hb1
    replace hT := hT.keep hb1
    replace za := za.keep hb1
    replace zb := zb.keep hb1
    replace zc := zc.keep hb1
    replace zd := zd.keep hb1
    replace zi := zi.keep hb1
    replace zj := zj.keep hb1
    replace z16 := z16.keep hb1
    replace z17 := z17.keep hb1
    replace z18 := z18.keep hb1
    replace z19 := z19.keep hb1
    replace hb := bthen hb hb1
    clear hb1
    generalize v28.alloc (.cells #[.bool (ngB Nl), .slice A18 n18 c18, .bool (ngB Nh), .slice A19 n19 c19, .int .i64 Q0] 26) = v29 at *
    obtain ⟨q_a0, f_a0, q_a1, f_a1, q_a2, f_a2, q_a3, f_a3, q_a4, f_a4⟩ := x_a.al
    obtain ⟨q_b0, f_b0, q_b1, f_b1, q_b2, f_b2, q_b3, f_b3, q_b4, f_b4⟩ := x_b.al
    obtain ⟨q_x0, f_x0, q_x1, f_x1, q_x2, f_x2⟩ := x_x.al
    obtain ⟨q_d0, f_d0, q_d1, f_d1, q_d2, f_d2, q_d3, f_d3, q_d4, f_d4⟩ := x_d.al
    obtain ⟨q_o0, f_o0, q_o1, f_o1, q_o2, f_o2, q_o3, f_o3, q_o4, f_o4⟩ := x_o.al
    skip
    with_reducible refine (Has_any z18.zr z19.zr zi.zr (by omega) (by omega) (by omega)).mono ?_
    rintro e v30 ⟨rfl, hb1⟩
    replace x_a := x_a.keep hb1
    replace x_b := x_b.keep hb1
    replace x_x := x_x.keep hb1
    replace x_y := x_y.keep hb1
    replace x_s := x_s.keep hb1
    replace x_t := x_t.keep hb1
    replace x_m := x_m.keep hb1
    replace x_d := x_d.keep hb1
    replace x_o := x_o.keep hb1
    replace hT := hT.keep hb1
    replace za := za.keep hb1
    replace zb := zb.keep hb1
    replace zc := zc.keep hb1
    replace zd := zd.keep hb1
    replace zi := zi.keep hb1
    replace zj := zj.keep hb1
    replace z16 := z16.keep hb1
    replace z17 := z17.keep hb1
    replace z18 := z18.keep hb1
    replace z19 := z19.keep hb1
    replace hb := bthen hb hb1
    clear hb1
    clear q_a0 f_a0 q_a1 f_a1 q_a2 f_a2 q_a3 f_a3 q_a4 f_a4; obtain ⟨q_a0, f_a0, q_a1, f_a1, q_a2, f_a2, q_a3, f_a3, q_a4, f_a4⟩ := x_a.al
    clear q_b0 f_b0 q_b1 f_b1 q_b2 f_b2 q_b3 f_b3 q_b4 f_b4; obtain ⟨q_b0, f_b0, q_b1, f_b1, q_b2, f_b2, q_b3, f_b3, q_b4, f_b4⟩ := x_b.al
    clear q_x0 f_x0 q_x1 f_x1 q_x2 f_x2; obtain ⟨q_x0, f_x0, q_x1, f_x1, q_x2, f_x2⟩ := x_x.al
    clear q_d0 f_d0 q_d1 f_d1 q_d2 f_d2 q_d3 f_d3 q_d4 f_d4; obtain ⟨q_d0, f_d0, q_d1, f_d1, q_d2, f_d2, q_d3, f_d3, q_d4, f_d4⟩ := x_d.al
    clear q_o0 f_o0 q_o1 f_o1 q_o2 f_o2 q_o3 f_o3 q_o4 f_o4; obtain ⟨q_o0, f_o0, q_o1, f_o1, q_o2, f_o2, q_o3, f_o3, q_o4, f_o4⟩ := x_o.al
    rw [HT6.out]
    go_wp2
    go_ret
    exact ⟨rfl, hb⟩

end Go.Proofs.YtiigacddjihokaaDoor
