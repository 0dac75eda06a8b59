/-
  The law BallOrder, as a call.
-/
import Derived.Test.YtiigacddjihokaaDoorLshown
import Derived.Test.YtiigacddjihokaaDoorLinside
import Derived.Test.YtiigacddjihokaaDoorLmeets
namespace Go.Proofs.YtiigacddjihokaaDoor
open Go.RowKit
set_option linter.unusedVariables false

theorem ins_trans {X Y q U V r S T s : Int} (h : insB X Y q U V r = true) (h2 : insB U V r S T s = true) : insB X Y q S T s = true := by
  unfold insB at *
  simp only [decide_eq_true_eq] at *
  exact ⟨h.1, h2.2.1, Int.le_trans h2.2.2.1 h.2.2.1, Int.le_trans h.2.2.2 h2.2.2.2⟩
theorem ins_met {X Y q U V r : Int} (h : insB X Y q U V r = true) : metB X Y q U V r = true := by
  unfold insB at h
  unfold metB
  simp only [decide_eq_true_eq] at *
  have := (vd_le (e := -q)).2 h.1.2.2
  exact ⟨h.1, h.2.1, Int.le_trans this h.2.2.2, Int.le_trans h.2.2.1 this⟩
theorem met_comm (X Y q U V r : Int) : metB X Y q U V r = metB U V r X Y q := by
  unfold metB
  refine decide_eq_decide.2 ⟨fun h => ⟨h.2.1, h.1, h.2.2.2, h.2.2.1⟩, fun h => ⟨h.2.1, h.1, h.2.2.2, h.2.2.1⟩⟩
theorem ins_self {X Y q : Int} (h : 0 ≤ q ∧ q ≤ 2048 ∧ X ≤ Y) : insB X Y q X Y q = true := by
  unfold insB
  exact decide_eq_true ⟨h, h, Int.le_refl _, Int.le_refl _⟩

set_option maxRecDepth 100000 in
set_option maxHeartbeats 16000000 in
theorem BallOrder_any {b b2 b3 b4 b5 b6 : Bool} {A A2 A3 A4 A5 A6 : Option Addr} {n c n2 c2 n3 c3 n4 c4 n5 c5 n6 c6 : Nat} {q r s : Int} {l0 l1 l2 l3 l4 l5 : List Int} {w : World} (hT : Tab w) (g0 : Rd w w.heap.size A n c l0) (g1 : Rd w w.heap.size A2 n2 c2 l1) (g2 : Rd w w.heap.size A3 n3 c3 l2) (g3 : Rd w w.heap.size A4 n4 c4 l3) (g4 : Rd w w.heap.size A5 n5 c5 l4) (g5 : Rd w w.heap.size A6 n6 c6 l5) (p : Int) (hp : -9223372036854775808 ≤ p ∧ p ≤ 9223372036854775807) :
    Calls Tryd.prog 5 #[.agg #[.bool b, .slice A n c, .bool b2, .slice A2 n2 c2, .int .i64 q], .agg #[.bool b3, .slice A3 n3 c3, .bool b4, .slice A4 n4 c4, .int .i64 r], .agg #[.bool b5, .slice A5 n5 c5, .bool b6, .slice A6 n6 c6, .int .i64 s], .int .i64 p] w fun e w' => e = .returned (.bool true) ∧ Below w.heap.size w w' := by
  go_enter Tryd.func5, Tryd.ntmps5
  go_wp2_with fail
  have x_a : Lx (w.alloc (.cells #[.bool b, .slice A n c, .bool b2, .slice A2 n2 c2, .int .i64 q] 26)) (w.heap.size) b A n c b2 A2 n2 c2 q := by have := Lx.new w b A n c b2 A2 n2 c2 q; simpa using this
  replace x_a := x_a.alloc (.cells #[.bool b3, .slice A3 n3 c3, .bool b4, .slice A4 n4 c4, .int .i64 r] 26)
  have x_b : Lx ((w.alloc (.cells #[.bool b, .slice A n c, .bool b2, .slice A2 n2 c2, .int .i64 q] 26)).alloc (.cells #[.bool b3, .slice A3 n3 c3, .bool b4, .slice A4 n4 c4, .int .i64 r] 26)) (w.heap.size + 1) b3 A3 n3 c3 b4 A4 n4 c4 r := by have := Lx.new (w.alloc (.cells #[.bool b, .slice A n c, .bool b2, .slice A2 n2 c2, .int .i64 q] 26)) b3 A3 n3 c3 b4 A4 n4 c4 r; simpa using this
  replace x_a := x_a.alloc (.cells #[.bool b5, .slice A5 n5 c5, .bool b6, .slice A6 n6 c6, .int .i64 s] 26)
  replace x_b := x_b.alloc (.cells #[.bool b5, .slice A5 n5 c5, .bool b6, .slice A6 n6 c6, .int .i64 s] 26)
  have x_c : Lx (((w.alloc (.cells #[.bool b, .slice A n c, .bool b2, .slice A2 n2 c2, .int .i64 q] 26)).alloc (.cells #[.bool b3, .slice A3 n3 c3, .bool b4, .slice A4 n4 c4, .int .i64 r] 26)).alloc (.cells #[.bool b5, .slice A5 n5 c5, .bool b6, .slice A6 n6 c6, .int .i64 s] 26)) (w.heap.size + 1 + 1) b5 A5 n5 c5 b6 A6 n6 c6 s := by have := Lx.new ((w.alloc (.cells #[.bool b, .slice A n c, .bool b2, .slice A2 n2 c2, .int .i64 q] 26)).alloc (.cells #[.bool b3, .slice A3 n3 c3, .bool b4, .slice A4 n4 c4, .int .i64 r] 26)) b5 A5 n5 c5 b6 A6 n6 c6 s; simpa using this
  have hb : Below w.heap.size w (((w.alloc (.cells #[.bool b, .slice A n c, .bool b2, .slice A2 n2 c2, .int .i64 q] 26)).alloc (.cells #[.bool b3, .slice A3 n3 c3, .bool b4, .slice A4 n4 c4, .int .i64 r] 26)).alloc (.cells #[.bool b5, .slice A5 n5 c5, .bool b6, .slice A6 n6 c6, .int .i64 s] 26)) := (Below.alloc (Below.alloc (Below.alloc (Below.refl w.heap.size w) (by simp) (.cells #[.bool b, .slice A n c, .bool b2, .slice A2 n2 c2, .int .i64 q] 26)) (by simp) (.cells #[.bool b3, .slice A3 n3 c3, .bool b4, .slice A4 n4 c4, .int .i64 r] 26)) (by simp; omega) (.cells #[.bool b5, .slice A5 n5 c5, .bool b6, .slice A6 n6 c6, .int .i64 s] 26))
  generalize ((w.alloc (.cells #[.bool b, .slice A n c, .bool b2, .slice A2 n2 c2, .int .i64 q] 26)).alloc (.cells #[.bool b3, .slice A3 n3 c3, .bool b4, .slice A4 n4 c4, .int .i64 r] 26)).alloc (.cells #[.bool b5, .slice A5 n5 c5, .bool b6, .slice A6 n6 c6, .int .i64 s] 26) = v1 at *
  replace g0 := g0.go hb
  replace g1 := g1.go hb
  replace g2 := g2.go hb
  replace g3 := g3.go hb
  replace g4 := g4.go hb
  replace g5 := g5.go hb
  replace hT := hT.keep hb
  have q_a0 := x_a.c0; have f_a0 := x_a.fr 0; have q_a1 := x_a.c1; have f_a1 := x_a.fr 1; have q_a2 := x_a.c2; have f_a2 := x_a.fr 2; have q_a3 := x_a.c3; have f_a3 := x_a.fr 3; have q_a4 := x_a.c4; have f_a4 := x_a.fr 4
  have q_b0 := x_b.c0; have f_b0 := x_b.fr 0; have q_b1 := x_b.c1; have f_b1 := x_b.fr 1; have q_b2 := x_b.c2; have f_b2 := x_b.fr 2; have q_b3 := x_b.c3; have f_b3 := x_b.fr 3; have q_b4 := x_b.c4; have f_b4 := x_b.fr 4
  have q_c0 := x_c.c0; have f_c0 := x_c.fr 0; have q_c1 := x_c.c1; have f_c1 := x_c.fr 1; have q_c2 := x_c.c2; have f_c2 := x_c.fr 2; have q_c3 := x_c.c3; have f_c3 := x_c.fr 3; have q_c4 := x_c.c4; have f_c4 := x_c.fr 4
  go_wp2_with fail
  with_reducible refine (Lshown_any hT).mono ?_
  rintro e v2 ⟨rfl, hb1⟩
  replace x_a := x_a.keep hb1
  replace x_b := x_b.keep hb1
  replace x_c := x_c.keep hb1
  replace g0 := g0.go hb1
  replace g1 := g1.go hb1
  replace g2 := g2.go hb1
  replace g3 := g3.go hb1
  replace g4 := g4.go hb1
  replace g5 := g5.go hb1
  replace hT := hT.keep hb1
  replace hb := bthen hb hb1
  clear hb1
  replace q_a0 := x_a.c0; replace f_a0 := x_a.fr 0; replace q_a1 := x_a.c1; replace f_a1 := x_a.fr 1; replace q_a2 := x_a.c2; replace f_a2 := x_a.fr 2; replace q_a3 := x_a.c3; replace f_a3 := x_a.fr 3; replace q_a4 := x_a.c4; replace f_a4 := x_a.fr 4
  replace q_b0 := x_b.c0; replace f_b0 := x_b.fr 0; replace q_b1 := x_b.c1; replace f_b1 := x_b.fr 1; replace q_b2 := x_b.c2; replace f_b2 := x_b.fr 2; replace q_b3 := x_b.c3; replace f_b3 := x_b.fr 3; replace q_b4 := x_b.c4; replace f_b4 := x_b.fr 4
  replace q_c0 := x_c.c0; replace f_c0 := x_c.fr 0; replace q_c1 := x_c.c1; replace f_c1 := x_c.fr 1; replace q_c2 := x_c.c2; replace f_c2 := x_c.fr 2; replace q_c3 := x_c.c3; replace f_c3 := x_c.fr 3; replace q_c4 := x_c.c4; replace f_c4 := x_c.fr 4
  go_wp2_with fail
  with_reducible refine (right_any g0 g1 p).mono ?_
  rintro e v3 ⟨d1, E1, m1, k1, d2, E2, m2, k2, X, Y, rfl, za, zb, hXY, hb1⟩
  replace x_a := x_a.keep hb1
  replace x_b := x_b.keep hb1
  replace x_c := x_c.keep hb1
  replace g0 := g0.go hb1
  replace g1 := g1.go hb1
  replace g2 := g2.go hb1
  replace g3 := g3.go hb1
  replace g4 := g4.go hb1
  replace g5 := g5.go hb1
  replace hT := hT.keep hb1
  replace hb := bthen hb hb1
  clear hb1
  replace q_a0 := x_a.c0; replace f_a0 := x_a.fr 0; replace q_a1 := x_a.c1; replace f_a1 := x_a.fr 1; replace q_a2 := x_a.c2; replace f_a2 := x_a.fr 2; replace q_a3 := x_a.c3; replace f_a3 := x_a.fr 3; replace q_a4 := x_a.c4; replace f_a4 := x_a.fr 4
  replace q_b0 := x_b.c0; replace f_b0 := x_b.fr 0; replace q_b1 := x_b.c1; replace f_b1 := x_b.fr 1; replace q_b2 := x_b.c2; replace f_b2 := x_b.fr 2; replace q_b3 := x_b.c3; replace f_b3 := x_b.fr 3; replace q_b4 := x_b.c4; replace f_b4 := x_b.fr 4
  replace q_c0 := x_c.c0; replace f_c0 := x_c.fr 0; replace q_c1 := x_c.c1; replace f_c1 := x_c.fr 1; replace q_c2 := x_c.c2; replace f_c2 := x_c.fr 2; replace q_c3 := x_c.c3; replace f_c3 := x_c.fr 3; replace q_c4 := x_c.c4; replace f_c4 := x_c.fr 4
  clear g0 g1
  go_wp2_with fail
  replace x_b := x_b.asideL (b' := d1) (A' := E1) (n' := m1) (c' := k1) (p' := d2) (B' := E2) (m' := m2) (d' := k2) (e' := (p % 256)) (g := w.heap.size) (by omega)
  replace x_c := x_c.asideL (b' := d1) (A' := E1) (n' := m1) (c' := k1) (p' := d2) (B' := E2) (m' := m2) (d' := k2) (e' := (p % 256)) (g := w.heap.size) (by omega)
  replace g2 := g2.sputL (b' := d1) (A' := E1) (n' := m1) (c' := k1) (p' := d2) (B' := E2) (m' := m2) (d' := k2) (e' := (p % 256)) x_a
  replace g3 := g3.sputL (b' := d1) (A' := E1) (n' := m1) (c' := k1) (p' := d2) (B' := E2) (m' := m2) (d' := k2) (e' := (p % 256)) x_a
  replace g4 := g4.sputL (b' := d1) (A' := E1) (n' := m1) (c' := k1) (p' := d2) (B' := E2) (m' := m2) (d' := k2) (e' := (p % 256)) x_a
  replace g5 := g5.sputL (b' := d1) (A' := E1) (n' := m1) (c' := k1) (p' := d2) (B' := E2) (m' := m2) (d' := k2) (e' := (p % 256)) x_a
  replace hT := hT.putL (b' := d1) (A' := E1) (n' := m1) (c' := k1) (p' := d2) (B' := E2) (m' := m2) (d' := k2) (e' := (p % 256)) x_a
  replace za := za.putL (b' := d1) (A' := E1) (n' := m1) (c' := k1) (p' := d2) (B' := E2) (m' := m2) (d' := k2) (e' := (p % 256)) x_a
  replace zb := zb.putL (b' := d1) (A' := E1) (n' := m1) (c' := k1) (p' := d2) (B' := E2) (m' := m2) (d' := k2) (e' := (p % 256)) x_a
  replace hb := put_belowL (g := w.heap.size) hb (by omega) (.bool d1) (.slice E1 m1 k1) (.bool d2) (.slice E2 m2 k2) (.int .i64 (p % 256))
  replace x_a := x_a.put d1 E1 m1 k1 d2 E2 m2 k2 (p % 256)
  clear q_a0 f_a0 q_a1 f_a1 q_a2 f_a2 q_a3 f_a3 q_a4 f_a4 q_b0 f_b0 q_b1 f_b1 q_b2 f_b2 q_b3 f_b3 q_b4 f_b4 q_c0 f_c0 q_c1 f_c1 q_c2 f_c2 q_c3 f_c3 q_c4 f_c4
  generalize ((((v3.setCell ⟨w.heap.size, 0, none⟩ (.bool d1)).setCell ⟨w.heap.size, 1, none⟩ (.slice E1 m1 k1)).setCell ⟨w.heap.size, 2, none⟩ (.bool d2)).setCell ⟨w.heap.size, 3, none⟩ (.slice E2 m2 k2)).setCell ⟨w.heap.size, 4, none⟩ (.int .i64 (p % 256)) = v4 at *
  have q_a0 := x_a.c0; have f_a0 := x_a.fr 0; have q_a1 := x_a.c1; have f_a1 := x_a.fr 1; have q_a2 := x_a.c2; have f_a2 := x_a.fr 2; have q_a3 := x_a.c3; have f_a3 := x_a.fr 3; have q_a4 := x_a.c4; have f_a4 := x_a.fr 4
  have q_b0 := x_b.c0; have f_b0 := x_b.fr 0; have q_b1 := x_b.c1; have f_b1 := x_b.fr 1; have q_b2 := x_b.c2; have f_b2 := x_b.fr 2; have q_b3 := x_b.c3; have f_b3 := x_b.fr 3; have q_b4 := x_b.c4; have f_b4 := x_b.fr 4
  have q_c0 := x_c.c0; have f_c0 := x_c.fr 0; have q_c1 := x_c.c1; have f_c1 := x_c.fr 1; have q_c2 := x_c.c2; have f_c2 := x_c.fr 2; have q_c3 := x_c.c3; have f_c3 := x_c.fr 3; have q_c4 := x_c.c4; have f_c4 := x_c.fr 4
  with_reducible refine (right_any g2 g3 (p / 256)).mono ?_
  rintro e v5 ⟨d3, E3, m3, k3, d4, E4, m4, k4, U, V, rfl, zc, zd, hUV, hb1⟩
  replace x_a := x_a.keep hb1
  replace x_b := x_b.keep hb1
  replace x_c := x_c.keep hb1
  replace g2 := g2.go hb1
  replace g3 := g3.go hb1
  replace g4 := g4.go hb1
  replace g5 := g5.go hb1
  replace hT := hT.keep hb1
  replace za := za.keep hb1
  replace zb := zb.keep hb1
  replace hb := bthen hb hb1
  clear hb1
  replace q_a0 := x_a.c0; replace f_a0 := x_a.fr 0; replace q_a1 := x_a.c1; replace f_a1 := x_a.fr 1; replace q_a2 := x_a.c2; replace f_a2 := x_a.fr 2; replace q_a3 := x_a.c3; replace f_a3 := x_a.fr 3; replace q_a4 := x_a.c4; replace f_a4 := x_a.fr 4
  replace q_b0 := x_b.c0; replace f_b0 := x_b.fr 0; replace q_b1 := x_b.c1; replace f_b1 := x_b.fr 1; replace q_b2 := x_b.c2; replace f_b2 := x_b.fr 2; replace q_b3 := x_b.c3; replace f_b3 := x_b.fr 3; replace q_b4 := x_b.c4; replace f_b4 := x_b.fr 4
  replace q_c0 := x_c.c0; replace f_c0 := x_c.fr 0; replace q_c1 := x_c.c1; replace f_c1 := x_c.fr 1; replace q_c2 := x_c.c2; replace f_c2 := x_c.fr 2; replace q_c3 := x_c.c3; replace f_c3 := x_c.fr 3; replace q_c4 := x_c.c4; replace f_c4 := x_c.fr 4
  clear g2 g3
  go_wp2_with fail
  replace x_a := x_a.asideL (b' := d3) (A' := E3) (n' := m3) (c' := k3) (p' := d4) (B' := E4) (m' := m4) (d' := k4) (e' := (p / 256 % 256)) (g := w.heap.size + 1) (by omega)
  replace x_c := x_c.asideL (b' := d3) (A' := E3) (n' := m3) (c' := k3) (p' := d4) (B' := E4) (m' := m4) (d' := k4) (e' := (p / 256 % 256)) (g := w.heap.size + 1) (by omega)
  replace g4 := g4.sputL (b' := d3) (A' := E3) (n' := m3) (c' := k3) (p' := d4) (B' := E4) (m' := m4) (d' := k4) (e' := (p / 256 % 256)) x_b
  replace g5 := g5.sputL (b' := d3) (A' := E3) (n' := m3) (c' := k3) (p' := d4) (B' := E4) (m' := m4) (d' := k4) (e' := (p / 256 % 256)) x_b
  replace hT := hT.putL (b' := d3) (A' := E3) (n' := m3) (c' := k3) (p' := d4) (B' := E4) (m' := m4) (d' := k4) (e' := (p / 256 % 256)) x_b
  replace za := za.putL (b' := d3) (A' := E3) (n' := m3) (c' := k3) (p' := d4) (B' := E4) (m' := m4) (d' := k4) (e' := (p / 256 % 256)) x_b
  replace zb := zb.putL (b' := d3) (A' := E3) (n' := m3) (c' := k3) (p' := d4) (B' := E4) (m' := m4) (d' := k4) (e' := (p / 256 % 256)) x_b
  replace zc := zc.putL (b' := d3) (A' := E3) (n' := m3) (c' := k3) (p' := d4) (B' := E4) (m' := m4) (d' := k4) (e' := (p / 256 % 256)) x_b
  replace zd := zd.putL (b' := d3) (A' := E3) (n' := m3) (c' := k3) (p' := d4) (B' := E4) (m' := m4) (d' := k4) (e' := (p / 256 % 256)) x_b
  replace hb := put_belowL (g := w.heap.size + 1) hb (by omega) (.bool d3) (.slice E3 m3 k3) (.bool d4) (.slice E4 m4 k4) (.int .i64 (p / 256 % 256))
  replace x_b := x_b.put d3 E3 m3 k3 d4 E4 m4 k4 (p / 256 % 256)
  clear q_a0 f_a0 q_a1 f_a1 q_a2 f_a2 q_a3 f_a3 q_a4 f_a4 q_b0 f_b0 q_b1 f_b1 q_b2 f_b2 q_b3 f_b3 q_b4 f_b4 q_c0 f_c0 q_c1 f_c1 q_c2 f_c2 q_c3 f_c3 q_c4 f_c4
  generalize ((((v5.setCell ⟨w.heap.size + 1, 0, none⟩ (.bool d3)).setCell ⟨w.heap.size + 1, 1, none⟩ (.slice E3 m3 k3)).setCell ⟨w.heap.size + 1, 2, none⟩ (.bool d4)).setCell ⟨w.heap.size + 1, 3, none⟩ (.slice E4 m4 k4)).setCell ⟨w.heap.size + 1, 4, none⟩ (.int .i64 (p / 256 % 256)) = v6 at *
  have q_a0 := x_a.c0; have f_a0 := x_a.fr 0; have q_a1 := x_a.c1; have f_a1 := x_a.fr 1; have q_a2 := x_a.c2; have f_a2 := x_a.fr 2; have q_a3 := x_a.c3; have f_a3 := x_a.fr 3; have q_a4 := x_a.c4; have f_a4 := x_a.fr 4
  have q_b0 := x_b.c0; have f_b0 := x_b.fr 0; have q_b1 := x_b.c1; have f_b1 := x_b.fr 1; have q_b2 := x_b.c2; have f_b2 := x_b.fr 2; have q_b3 := x_b.c3; have f_b3 := x_b.fr 3; have q_b4 := x_b.c4; have f_b4 := x_b.fr 4
  have q_c0 := x_c.c0; have f_c0 := x_c.fr 0; have q_c1 := x_c.c1; have f_c1 := x_c.fr 1; have q_c2 := x_c.c2; have f_c2 := x_c.fr 2; have q_c3 := x_c.c3; have f_c3 := x_c.fr 3; have q_c4 := x_c.c4; have f_c4 := x_c.fr 4
  with_reducible refine (right_any g4 g5 (p / 65536)).mono ?_
  rintro e v7 ⟨d5, E5, m5, k5, d6, E6, m6, k6, S, T, rfl, ze, zf, hST, hb1⟩
  replace x_a := x_a.keep hb1
  replace x_b := x_b.keep hb1
  replace x_c := x_c.keep hb1
  replace g4 := g4.go hb1
  replace g5 := g5.go hb1
  replace hT := hT.keep hb1
  replace za := za.keep hb1
  replace zb := zb.keep hb1
  replace zc := zc.keep hb1
  replace zd := zd.keep hb1
  replace hb := bthen hb hb1
  clear hb1
  replace q_a0 := x_a.c0; replace f_a0 := x_a.fr 0; replace q_a1 := x_a.c1; replace f_a1 := x_a.fr 1; replace q_a2 := x_a.c2; replace f_a2 := x_a.fr 2; replace q_a3 := x_a.c3; replace f_a3 := x_a.fr 3; replace q_a4 := x_a.c4; replace f_a4 := x_a.fr 4
  replace q_b0 := x_b.c0; replace f_b0 := x_b.fr 0; replace q_b1 := x_b.c1; replace f_b1 := x_b.fr 1; replace q_b2 := x_b.c2; replace f_b2 := x_b.fr 2; replace q_b3 := x_b.c3; replace f_b3 := x_b.fr 3; replace q_b4 := x_b.c4; replace f_b4 := x_b.fr 4
  replace q_c0 := x_c.c0; replace f_c0 := x_c.fr 0; replace q_c1 := x_c.c1; replace f_c1 := x_c.fr 1; replace q_c2 := x_c.c2; replace f_c2 := x_c.fr 2; replace q_c3 := x_c.c3; replace f_c3 := x_c.fr 3; replace q_c4 := x_c.c4; replace f_c4 := x_c.fr 4
  clear g4 g5
  go_wp2_with fail
  replace x_a := x_a.asideL (b' := d5) (A' := E5) (n' := m5) (c' := k5) (p' := d6) (B' := E6) (m' := m6) (d' := k6) (e' := (p / 65536 % 256)) (g := w.heap.size + 1 + 1) (by omega)
  replace x_b := x_b.asideL (b' := d5) (A' := E5) (n' := m5) (c' := k5) (p' := d6) (B' := E6) (m' := m6) (d' := k6) (e' := (p / 65536 % 256)) (g := w.heap.size + 1 + 1) (by omega)
  replace hT := hT.putL (b' := d5) (A' := E5) (n' := m5) (c' := k5) (p' := d6) (B' := E6) (m' := m6) (d' := k6) (e' := (p / 65536 % 256)) x_c
  replace za := za.putL (b' := d5) (A' := E5) (n' := m5) (c' := k5) (p' := d6) (B' := E6) (m' := m6) (d' := k6) (e' := (p / 65536 % 256)) x_c
  replace zb := zb.putL (b' := d5) (A' := E5) (n' := m5) (c' := k5) (p' := d6) (B' := E6) (m' := m6) (d' := k6) (e' := (p / 65536 % 256)) x_c
  replace zc := zc.putL (b' := d5) (A' := E5) (n' := m5) (c' := k5) (p' := d6) (B' := E6) (m' := m6) (d' := k6) (e' := (p / 65536 % 256)) x_c
  replace zd := zd.putL (b' := d5) (A' := E5) (n' := m5) (c' := k5) (p' := d6) (B' := E6) (m' := m6) (d' := k6) (e' := (p / 65536 % 256)) x_c
  replace ze := ze.putL (b' := d5) (A' := E5) (n' := m5) (c' := k5) (p' := d6) (B' := E6) (m' := m6) (d' := k6) (e' := (p / 65536 % 256)) x_c
  replace zf := zf.putL (b' := d5) (A' := E5) (n' := m5) (c' := k5) (p' := d6) (B' := E6) (m' := m6) (d' := k6) (e' := (p / 65536 % 256)) x_c
  replace hb := put_belowL (g := w.heap.size + 1 + 1) hb (by omega) (.bool d5) (.slice E5 m5 k5) (.bool d6) (.slice E6 m6 k6) (.int .i64 (p / 65536 % 256))
  replace x_c := x_c.put d5 E5 m5 k5 d6 E6 m6 k6 (p / 65536 % 256)
  clear q_a0 f_a0 q_a1 f_a1 q_a2 f_a2 q_a3 f_a3 q_a4 f_a4 q_b0 f_b0 q_b1 f_b1 q_b2 f_b2 q_b3 f_b3 q_b4 f_b4 q_c0 f_c0 q_c1 f_c1 q_c2 f_c2 q_c3 f_c3 q_c4 f_c4
  generalize ((((v7.setCell ⟨w.heap.size + 1 + 1, 0, none⟩ (.bool d5)).setCell ⟨w.heap.size + 1 + 1, 1, none⟩ (.slice E5 m5 k5)).setCell ⟨w.heap.size + 1 + 1, 2, none⟩ (.bool d6)).setCell ⟨w.heap.size + 1 + 1, 3, none⟩ (.slice E6 m6 k6)).setCell ⟨w.heap.size + 1 + 1, 4, none⟩ (.int .i64 (p / 65536 % 256)) = v8 at *
  have q_a0 := x_a.c0; have f_a0 := x_a.fr 0; have q_a1 := x_a.c1; have f_a1 := x_a.fr 1; have q_a2 := x_a.c2; have f_a2 := x_a.fr 2; have q_a3 := x_a.c3; have f_a3 := x_a.fr 3; have q_a4 := x_a.c4; have f_a4 := x_a.fr 4
  have q_b0 := x_b.c0; have f_b0 := x_b.fr 0; have q_b1 := x_b.c1; have f_b1 := x_b.fr 1; have q_b2 := x_b.c2; have f_b2 := x_b.fr 2; have q_b3 := x_b.c3; have f_b3 := x_b.fr 3; have q_b4 := x_b.c4; have f_b4 := x_b.fr 4
  have q_c0 := x_c.c0; have f_c0 := x_c.fr 0; have q_c1 := x_c.c1; have f_c1 := x_c.fr 1; have q_c2 := x_c.c2; have f_c2 := x_c.fr 2; have q_c3 := x_c.c3; have f_c3 := x_c.fr 3; have q_c4 := x_c.c4; have f_c4 := x_c.fr 4
  have hq1 : 0 ≤ p % 256 ∧ p % 256 ≤ 2048 ∧ X ≤ Y := ⟨by omega, by omega, hXY⟩
  generalize p % 256 = q1 at *
  generalize p / 256 % 256 = q2 at *
  generalize p / 65536 % 256 = q3 at *
  have t1 := ins_trans (X := X) (Y := Y) (q := q1) (U := U) (V := V) (r := q2) (S := S) (T := T) (s := q3)
  have t2 := ins_met (X := X) (Y := Y) (q := q1) (U := U) (V := V) (r := q2)
  have t3 := met_comm X Y q1 U V q2
  have HI := Lib.hid (ins_self hq1); have HS := Lib.hid (ins_met (ins_self hq1))
  obtain ⟨m, hm⟩ : ∃ m, metB X Y q1 U V q2 = m := ⟨_, rfl⟩
  rw [hm] at t2 t3
  have HM1 := Lib.hid hm; have HM2 := Lib.hid t3.symm; clear hm t3 hq1 hXY hUV hST
  cases hi1 : insB X Y q1 U V q2
  · have H1 := Lib.hid hi1
    clear hi1 t1 t2
    skip
    with_reducible refine (Inside_any za zb zc zd (by omega) (by omega) (by omega) (by omega)).mono ?_
    rintro e v9 ⟨rfl, hb1⟩
    replace x_a := x_a.keep hb1
    replace x_b := x_b.keep hb1
    replace x_c := x_c.keep hb1
    replace hT := hT.keep hb1
    replace za := za.keep hb1
    replace zb := zb.keep hb1
    replace zc := zc.keep hb1
    replace zd := zd.keep hb1
    replace ze := ze.keep hb1
    replace zf := zf.keep hb1
    replace hb := bthen hb hb1
    clear hb1
    replace q_a0 := x_a.c0; replace f_a0 := x_a.fr 0; replace q_a1 := x_a.c1; replace f_a1 := x_a.fr 1; replace q_a2 := x_a.c2; replace f_a2 := x_a.fr 2; replace q_a3 := x_a.c3; replace f_a3 := x_a.fr 3; replace q_a4 := x_a.c4; replace f_a4 := x_a.fr 4
    replace q_b0 := x_b.c0; replace f_b0 := x_b.fr 0; replace q_b1 := x_b.c1; replace f_b1 := x_b.fr 1; replace q_b2 := x_b.c2; replace f_b2 := x_b.fr 2; replace q_b3 := x_b.c3; replace f_b3 := x_b.fr 3; replace q_b4 := x_b.c4; replace f_b4 := x_b.fr 4
    replace q_c0 := x_c.c0; replace f_c0 := x_c.fr 0; replace q_c1 := x_c.c1; replace f_c1 := x_c.fr 1; replace q_c2 := x_c.c2; replace f_c2 := x_c.fr 2; replace q_c3 := x_c.c3; replace f_c3 := x_c.fr 3; replace q_c4 := x_c.c4; replace f_c4 := x_c.fr 4
    rw [H1.out]
    go_wp2_with fail
    with_reducible refine (Inside_any za zb zc zd (by omega) (by omega) (by omega) (by omega)).mono ?_
    rintro e v10 ⟨rfl, hb1⟩
    replace x_a := x_a.keep hb1
    replace x_b := x_b.keep hb1
    replace x_c := x_c.keep hb1
    replace hT := hT.keep hb1
    replace za := za.keep hb1
    replace zb := zb.keep hb1
    replace zc := zc.keep hb1
    replace zd := zd.keep hb1
    replace ze := ze.keep hb1
    replace zf := zf.keep hb1
    replace hb := bthen hb hb1
    clear hb1
    replace q_a0 := x_a.c0; replace f_a0 := x_a.fr 0; replace q_a1 := x_a.c1; replace f_a1 := x_a.fr 1; replace q_a2 := x_a.c2; replace f_a2 := x_a.fr 2; replace q_a3 := x_a.c3; replace f_a3 := x_a.fr 3; replace q_a4 := x_a.c4; replace f_a4 := x_a.fr 4
    replace q_b0 := x_b.c0; replace f_b0 := x_b.fr 0; replace q_b1 := x_b.c1; replace f_b1 := x_b.fr 1; replace q_b2 := x_b.c2; replace f_b2 := x_b.fr 2; replace q_b3 := x_b.c3; replace f_b3 := x_b.fr 3; replace q_b4 := x_b.c4; replace f_b4 := x_b.fr 4
    replace q_c0 := x_c.c0; replace f_c0 := x_c.fr 0; replace q_c1 := x_c.c1; replace f_c1 := x_c.fr 1; replace q_c2 := x_c.c2; replace f_c2 := x_c.fr 2; replace q_c3 := x_c.c3; replace f_c3 := x_c.fr 3; replace q_c4 := x_c.c4; replace f_c4 := x_c.fr 4
    rw [H1.out]
    go_wp2_with fail
    go_region_held3 (fun w' => w'.cell? ⟨w.heap.size, 0, none⟩ = some (.bool d1) ∧ w'.cell? ⟨w.heap.size, 1, none⟩ = some (.slice E1 m1 k1) ∧ w'.cell? ⟨w.heap.size, 2, none⟩ = some (.bool d2) ∧ w'.cell? ⟨w.heap.size, 3, none⟩ = some (.slice E2 m2 k2) ∧ w'.cell? ⟨w.heap.size, 4, none⟩ = some (.int .i64 q1) ∧ w'.cell? ⟨w.heap.size + 1, 0, none⟩ = some (.bool d3) ∧ w'.cell? ⟨w.heap.size + 1, 1, none⟩ = some (.slice E3 m3 k3) ∧ w'.cell? ⟨w.heap.size + 1, 2, none⟩ = some (.bool d4) ∧ w'.cell? ⟨w.heap.size + 1, 3, none⟩ = some (.slice E4 m4 k4) ∧ w'.cell? ⟨w.heap.size + 1, 4, none⟩ = some (.int .i64 q2))
      (first | (with_reducible exact ⟨x_a.c0, x_a.c1, x_a.c2, x_a.c3, x_a.c4, x_b.c0, x_b.c1, x_b.c2, x_b.c3, x_b.c4⟩) | (with_reducible exact ⟨(x_a.aside (by omega)).c0, (x_a.aside (by omega)).c1, (x_a.aside (by omega)).c2, (x_a.aside (by omega)).c3, (x_a.aside (by omega)).c4, (x_b.aside (by omega)).c0, (x_b.aside (by omega)).c1, (x_b.aside (by omega)).c2, (x_b.aside (by omega)).c3, (x_b.aside (by omega)).c4⟩) | (with_reducible exact ⟨((x_a.aside (by omega)).aside (by omega)).c0, ((x_a.aside (by omega)).aside (by omega)).c1, ((x_a.aside (by omega)).aside (by omega)).c2, ((x_a.aside (by omega)).aside (by omega)).c3, ((x_a.aside (by omega)).aside (by omega)).c4, ((x_b.aside (by omega)).aside (by omega)).c0, ((x_b.aside (by omega)).aside (by omega)).c1, ((x_b.aside (by omega)).aside (by omega)).c2, ((x_b.aside (by omega)).aside (by omega)).c3, ((x_b.aside (by omega)).aside (by omega)).c4⟩) | (with_reducible exact ⟨(x_a.asideD (by omega)).c0, (x_a.asideD (by omega)).c1, (x_a.asideD (by omega)).c2, (x_a.asideD (by omega)).c3, (x_a.asideD (by omega)).c4, (x_b.asideD (by omega)).c0, (x_b.asideD (by omega)).c1, (x_b.asideD (by omega)).c2, (x_b.asideD (by omega)).c3, (x_b.asideD (by omega)).c4⟩) | (with_reducible exact ⟨((x_a.asideD (by omega)).asideD (by omega)).c0, ((x_a.asideD (by omega)).asideD (by omega)).c1, ((x_a.asideD (by omega)).asideD (by omega)).c2, ((x_a.asideD (by omega)).asideD (by omega)).c3, ((x_a.asideD (by omega)).asideD (by omega)).c4, ((x_b.asideD (by omega)).asideD (by omega)).c0, ((x_b.asideD (by omega)).asideD (by omega)).c1, ((x_b.asideD (by omega)).asideD (by omega)).c2, ((x_b.asideD (by omega)).asideD (by omega)).c3, ((x_b.asideD (by omega)).asideD (by omega)).c4⟩) | (with_reducible exact ⟨(x_a.asideL (by omega)).c0, (x_a.asideL (by omega)).c1, (x_a.asideL (by omega)).c2, (x_a.asideL (by omega)).c3, (x_a.asideL (by omega)).c4, (x_b.asideL (by omega)).c0, (x_b.asideL (by omega)).c1, (x_b.asideL (by omega)).c2, (x_b.asideL (by omega)).c3, (x_b.asideL (by omega)).c4⟩) | (with_reducible exact ⟨((x_a.asideL (by omega)).asideL (by omega)).c0, ((x_a.asideL (by omega)).asideL (by omega)).c1, ((x_a.asideL (by omega)).asideL (by omega)).c2, ((x_a.asideL (by omega)).asideL (by omega)).c3, ((x_a.asideL (by omega)).asideL (by omega)).c4, ((x_b.asideL (by omega)).asideL (by omega)).c0, ((x_b.asideL (by omega)).asideL (by omega)).c1, ((x_b.asideL (by omega)).asideL (by omega)).c2, ((x_b.asideL (by omega)).asideL (by omega)).c3, ((x_b.asideL (by omega)).asideL (by omega)).c4⟩) | go_keep)
      (first | (go_at_call 22; (with_reducible refine (Meets_any za.drw zb.drw zc.drw zd.drw (by omega) (by omega) (by omega) (by omega)).mono ?_); rintro e v11 ⟨rfl, hb1⟩; replace hb1 := undrew hb1; replace x_a := x_a.keep hb1; replace x_b := x_b.keep hb1; replace x_c := x_c.keep hb1; replace hT := hT.keep hb1; replace za := za.keep hb1; replace zb := zb.keep hb1; replace zc := zc.keep hb1; replace zd := zd.keep hb1; replace ze := ze.keep hb1; replace zf := zf.keep hb1; replace hb := bthen hb hb1; clear hb1; replace q_a0 := x_a.c0; replace f_a0 := x_a.fr 0; replace q_a1 := x_a.c1; replace f_a1 := x_a.fr 1; replace q_a2 := x_a.c2; replace f_a2 := x_a.fr 2; replace q_a3 := x_a.c3; replace f_a3 := x_a.fr 3; replace q_a4 := x_a.c4; replace f_a4 := x_a.fr 4; replace q_b0 := x_b.c0; replace f_b0 := x_b.fr 0; replace q_b1 := x_b.c1; replace f_b1 := x_b.fr 1; replace q_b2 := x_b.c2; replace f_b2 := x_b.fr 2; replace q_b3 := x_b.c3; replace f_b3 := x_b.fr 3; replace q_b4 := x_b.c4; replace f_b4 := x_b.fr 4; replace q_c0 := x_c.c0; replace f_c0 := x_c.fr 0; replace q_c1 := x_c.c1; replace f_c1 := x_c.fr 1; replace q_c2 := x_c.c2; replace f_c2 := x_c.fr 2; replace q_c3 := x_c.c3; replace f_c3 := x_c.fr 3; replace q_c4 := x_c.c4; replace f_c4 := x_c.fr 4; rw [HM1.out]) | (go_at_call 22; (with_reducible refine (Meets_any zc zd za zb (by omega) (by omega) (by omega) (by omega)).mono ?_); rintro e v12 ⟨rfl, hb1⟩; replace x_a := x_a.keep hb1; replace x_b := x_b.keep hb1; replace x_c := x_c.keep hb1; replace hT := hT.keep hb1; replace za := za.keep hb1; replace zb := zb.keep hb1; replace zc := zc.keep hb1; replace zd := zd.keep hb1; replace ze := ze.keep hb1; replace zf := zf.keep hb1; replace hb := bthen hb hb1; clear hb1; replace q_a0 := x_a.c0; replace f_a0 := x_a.fr 0; replace q_a1 := x_a.c1; replace f_a1 := x_a.fr 1; replace q_a2 := x_a.c2; replace f_a2 := x_a.fr 2; replace q_a3 := x_a.c3; replace f_a3 := x_a.fr 3; replace q_a4 := x_a.c4; replace f_a4 := x_a.fr 4; replace q_b0 := x_b.c0; replace f_b0 := x_b.fr 0; replace q_b1 := x_b.c1; replace f_b1 := x_b.fr 1; replace q_b2 := x_b.c2; replace f_b2 := x_b.fr 2; replace q_b3 := x_b.c3; replace f_b3 := x_b.fr 3; replace q_b4 := x_b.c4; replace f_b4 := x_b.fr 4; replace q_c0 := x_c.c0; replace f_c0 := x_c.fr 0; replace q_c1 := x_c.c1; replace f_c1 := x_c.fr 1; replace q_c2 := x_c.c2; replace f_c2 := x_c.fr 2; replace q_c3 := x_c.c3; replace f_c3 := x_c.fr 3; replace q_c4 := x_c.c4; replace f_c4 := x_c.fr 4; rw [HM2.out]) | (go_at_call 18; (with_reducible refine (Inside_any za zb za zb (by omega) (by omega) (by omega) (by omega)).mono ?_); rintro e v13 ⟨rfl, hb1⟩; replace x_a := x_a.keep hb1; replace x_b := x_b.keep hb1; replace x_c := x_c.keep hb1; replace hT := hT.keep hb1; replace za := za.keep hb1; replace zb := zb.keep hb1; replace zc := zc.keep hb1; replace zd := zd.keep hb1; replace ze := ze.keep hb1; replace zf := zf.keep hb1; replace hb := bthen hb hb1; clear hb1; replace q_a0 := x_a.c0; replace f_a0 := x_a.fr 0; replace q_a1 := x_a.c1; replace f_a1 := x_a.fr 1; replace q_a2 := x_a.c2; replace f_a2 := x_a.fr 2; replace q_a3 := x_a.c3; replace f_a3 := x_a.fr 3; replace q_a4 := x_a.c4; replace f_a4 := x_a.fr 4; replace q_b0 := x_b.c0; replace f_b0 := x_b.fr 0; replace q_b1 := x_b.c1; replace f_b1 := x_b.fr 1; replace q_b2 := x_b.c2; replace f_b2 := x_b.fr 2; replace q_b3 := x_b.c3; replace f_b3 := x_b.fr 3; replace q_b4 := x_b.c4; replace f_b4 := x_b.fr 4; replace q_c0 := x_c.c0; replace f_c0 := x_c.fr 0; replace q_c1 := x_c.c1; replace f_c1 := x_c.fr 1; replace q_c2 := x_c.c2; replace f_c2 := x_c.fr 2; replace q_c3 := x_c.c3; replace f_c3 := x_c.fr 3; replace q_c4 := x_c.c4; replace f_c4 := x_c.fr 4; rw [HI.out]) | (go_at_call 22; (with_reducible refine (Meets_any za zb za zb (by omega) (by omega) (by omega) (by omega)).mono ?_); rintro e v14 ⟨rfl, hb1⟩; replace x_a := x_a.keep hb1; replace x_b := x_b.keep hb1; replace x_c := x_c.keep hb1; replace hT := hT.keep hb1; replace za := za.keep hb1; replace zb := zb.keep hb1; replace zc := zc.keep hb1; replace zd := zd.keep hb1; replace ze := ze.keep hb1; replace zf := zf.keep hb1; replace hb := bthen hb hb1; clear hb1; replace q_a0 := x_a.c0; replace f_a0 := x_a.fr 0; replace q_a1 := x_a.c1; replace f_a1 := x_a.fr 1; replace q_a2 := x_a.c2; replace f_a2 := x_a.fr 2; replace q_a3 := x_a.c3; replace f_a3 := x_a.fr 3; replace q_a4 := x_a.c4; replace f_a4 := x_a.fr 4; replace q_b0 := x_b.c0; replace f_b0 := x_b.fr 0; replace q_b1 := x_b.c1; replace f_b1 := x_b.fr 1; replace q_b2 := x_b.c2; replace f_b2 := x_b.fr 2; replace q_b3 := x_b.c3; replace f_b3 := x_b.fr 3; replace q_b4 := x_b.c4; replace f_b4 := x_b.fr 4; replace q_c0 := x_c.c0; replace f_c0 := x_c.fr 0; replace q_c1 := x_c.c1; replace f_c1 := x_c.fr 1; replace q_c2 := x_c.c2; replace f_c2 := x_c.fr 2; replace q_c3 := x_c.c3; replace f_c3 := x_c.fr 3; replace q_c4 := x_c.c4; replace f_c4 := x_c.fr 4; rw [HS.out]))
    go_wp2
    go_ret
    first | exact ⟨rfl, hb⟩ | exact ⟨by simp, hb⟩
  · have H1 := Lib.hid hi1
    have hm1 := t2 hi1
    subst hm1
    cases hi2 : insB U V q2 S T q3
    · have H2 := Lib.hid hi2
      clear hi1 hi2 t1 t2
      skip
      with_reducible refine (Inside_any za zb zc zd (by omega) (by omega) (by omega) (by omega)).mono ?_
      rintro e v9 ⟨rfl, hb1⟩
      replace x_a := x_a.keep hb1
      replace x_b := x_b.keep hb1
      replace x_c := x_c.keep hb1
      replace hT := hT.keep hb1
      replace za := za.keep hb1
      replace zb := zb.keep hb1
      replace zc := zc.keep hb1
      replace zd := zd.keep hb1
      replace ze := ze.keep hb1
      replace zf := zf.keep hb1
      replace hb := bthen hb hb1
      clear hb1
      replace q_a0 := x_a.c0; replace f_a0 := x_a.fr 0; replace q_a1 := x_a.c1; replace f_a1 := x_a.fr 1; replace q_a2 := x_a.c2; replace f_a2 := x_a.fr 2; replace q_a3 := x_a.c3; replace f_a3 := x_a.fr 3; replace q_a4 := x_a.c4; replace f_a4 := x_a.fr 4
      replace q_b0 := x_b.c0; replace f_b0 := x_b.fr 0; replace q_b1 := x_b.c1; replace f_b1 := x_b.fr 1; replace q_b2 := x_b.c2; replace f_b2 := x_b.fr 2; replace q_b3 := x_b.c3; replace f_b3 := x_b.fr 3; replace q_b4 := x_b.c4; replace f_b4 := x_b.fr 4
      replace q_c0 := x_c.c0; replace f_c0 := x_c.fr 0; replace q_c1 := x_c.c1; replace f_c1 := x_c.fr 1; replace q_c2 := x_c.c2; replace f_c2 := x_c.fr 2; replace q_c3 := x_c.c3; replace f_c3 := x_c.fr 3; replace q_c4 := x_c.c4; replace f_c4 := x_c.fr 4
      rw [H1.out]
      go_wp2_with fail
      with_reducible refine (Inside_any zc zd ze zf (by omega) (by omega) (by omega) (by omega)).mono ?_
      rintro e v10 ⟨rfl, hb1⟩
      replace x_a := x_a.keep hb1
      replace x_b := x_b.keep hb1
      replace x_c := x_c.keep hb1
      replace hT := hT.keep hb1
      replace za := za.keep hb1
      replace zb := zb.keep hb1
      replace zc := zc.keep hb1
      replace zd := zd.keep hb1
      replace ze := ze.keep hb1
      replace zf := zf.keep hb1
      replace hb := bthen hb hb1
      clear hb1
      replace q_a0 := x_a.c0; replace f_a0 := x_a.fr 0; replace q_a1 := x_a.c1; replace f_a1 := x_a.fr 1; replace q_a2 := x_a.c2; replace f_a2 := x_a.fr 2; replace q_a3 := x_a.c3; replace f_a3 := x_a.fr 3; replace q_a4 := x_a.c4; replace f_a4 := x_a.fr 4
      replace q_b0 := x_b.c0; replace f_b0 := x_b.fr 0; replace q_b1 := x_b.c1; replace f_b1 := x_b.fr 1; replace q_b2 := x_b.c2; replace f_b2 := x_b.fr 2; replace q_b3 := x_b.c3; replace f_b3 := x_b.fr 3; replace q_b4 := x_b.c4; replace f_b4 := x_b.fr 4
      replace q_c0 := x_c.c0; replace f_c0 := x_c.fr 0; replace q_c1 := x_c.c1; replace f_c1 := x_c.fr 1; replace q_c2 := x_c.c2; replace f_c2 := x_c.fr 2; replace q_c3 := x_c.c3; replace f_c3 := x_c.fr 3; replace q_c4 := x_c.c4; replace f_c4 := x_c.fr 4
      rw [H2.out]
      go_wp2_with fail
      with_reducible refine (Inside_any za zb zc zd (by omega) (by omega) (by omega) (by omega)).mono ?_
      rintro e v11 ⟨rfl, hb1⟩
      replace x_a := x_a.keep hb1
      replace x_b := x_b.keep hb1
      replace x_c := x_c.keep hb1
      replace hT := hT.keep hb1
      replace za := za.keep hb1
      replace zb := zb.keep hb1
      replace zc := zc.keep hb1
      replace zd := zd.keep hb1
      replace ze := ze.keep hb1
      replace zf := zf.keep hb1
      replace hb := bthen hb hb1
      clear hb1
      replace q_a0 := x_a.c0; replace f_a0 := x_a.fr 0; replace q_a1 := x_a.c1; replace f_a1 := x_a.fr 1; replace q_a2 := x_a.c2; replace f_a2 := x_a.fr 2; replace q_a3 := x_a.c3; replace f_a3 := x_a.fr 3; replace q_a4 := x_a.c4; replace f_a4 := x_a.fr 4
      replace q_b0 := x_b.c0; replace f_b0 := x_b.fr 0; replace q_b1 := x_b.c1; replace f_b1 := x_b.fr 1; replace q_b2 := x_b.c2; replace f_b2 := x_b.fr 2; replace q_b3 := x_b.c3; replace f_b3 := x_b.fr 3; replace q_b4 := x_b.c4; replace f_b4 := x_b.fr 4
      replace q_c0 := x_c.c0; replace f_c0 := x_c.fr 0; replace q_c1 := x_c.c1; replace f_c1 := x_c.fr 1; replace q_c2 := x_c.c2; replace f_c2 := x_c.fr 2; replace q_c3 := x_c.c3; replace f_c3 := x_c.fr 3; replace q_c4 := x_c.c4; replace f_c4 := x_c.fr 4
      rw [H1.out]
      go_wp2_with fail
      with_reducible refine (Meets_any za zb zc zd (by omega) (by omega) (by omega) (by omega)).mono ?_
      rintro e v12 ⟨rfl, hb1⟩
      replace x_a := x_a.keep hb1
      replace x_b := x_b.keep hb1
      replace x_c := x_c.keep hb1
      replace hT := hT.keep hb1
      replace za := za.keep hb1
      replace zb := zb.keep hb1
      replace zc := zc.keep hb1
      replace zd := zd.keep hb1
      replace ze := ze.keep hb1
      replace zf := zf.keep hb1
      replace hb := bthen hb hb1
      clear hb1
      replace q_a0 := x_a.c0; replace f_a0 := x_a.fr 0; replace q_a1 := x_a.c1; replace f_a1 := x_a.fr 1; replace q_a2 := x_a.c2; replace f_a2 := x_a.fr 2; replace q_a3 := x_a.c3; replace f_a3 := x_a.fr 3; replace q_a4 := x_a.c4; replace f_a4 := x_a.fr 4
      replace q_b0 := x_b.c0; replace f_b0 := x_b.fr 0; replace q_b1 := x_b.c1; replace f_b1 := x_b.fr 1; replace q_b2 := x_b.c2; replace f_b2 := x_b.fr 2; replace q_b3 := x_b.c3; replace f_b3 := x_b.fr 3; replace q_b4 := x_b.c4; replace f_b4 := x_b.fr 4
      replace q_c0 := x_c.c0; replace f_c0 := x_c.fr 0; replace q_c1 := x_c.c1; replace f_c1 := x_c.fr 1; replace q_c2 := x_c.c2; replace f_c2 := x_c.fr 2; replace q_c3 := x_c.c3; replace f_c3 := x_c.fr 3; replace q_c4 := x_c.c4; replace f_c4 := x_c.fr 4
      rw [HM1.out]
      go_wp2_with fail
      go_region_held3 (fun w' => w'.cell? ⟨w.heap.size, 0, none⟩ = some (.bool d1) ∧ w'.cell? ⟨w.heap.size, 1, none⟩ = some (.slice E1 m1 k1) ∧ w'.cell? ⟨w.heap.size, 2, none⟩ = some (.bool d2) ∧ w'.cell? ⟨w.heap.size, 3, none⟩ = some (.slice E2 m2 k2) ∧ w'.cell? ⟨w.heap.size, 4, none⟩ = some (.int .i64 q1) ∧ w'.cell? ⟨w.heap.size + 1, 0, none⟩ = some (.bool d3) ∧ w'.cell? ⟨w.heap.size + 1, 1, none⟩ = some (.slice E3 m3 k3) ∧ w'.cell? ⟨w.heap.size + 1, 2, none⟩ = some (.bool d4) ∧ w'.cell? ⟨w.heap.size + 1, 3, none⟩ = some (.slice E4 m4 k4) ∧ w'.cell? ⟨w.heap.size + 1, 4, none⟩ = some (.int .i64 q2))
        (first | (with_reducible exact ⟨x_a.c0, x_a.c1, x_a.c2, x_a.c3, x_a.c4, x_b.c0, x_b.c1, x_b.c2, x_b.c3, x_b.c4⟩) | (with_reducible exact ⟨(x_a.aside (by omega)).c0, (x_a.aside (by omega)).c1, (x_a.aside (by omega)).c2, (x_a.aside (by omega)).c3, (x_a.aside (by omega)).c4, (x_b.aside (by omega)).c0, (x_b.aside (by omega)).c1, (x_b.aside (by omega)).c2, (x_b.aside (by omega)).c3, (x_b.aside (by omega)).c4⟩) | (with_reducible exact ⟨((x_a.aside (by omega)).aside (by omega)).c0, ((x_a.aside (by omega)).aside (by omega)).c1, ((x_a.aside (by omega)).aside (by omega)).c2, ((x_a.aside (by omega)).aside (by omega)).c3, ((x_a.aside (by omega)).aside (by omega)).c4, ((x_b.aside (by omega)).aside (by omega)).c0, ((x_b.aside (by omega)).aside (by omega)).c1, ((x_b.aside (by omega)).aside (by omega)).c2, ((x_b.aside (by omega)).aside (by omega)).c3, ((x_b.aside (by omega)).aside (by omega)).c4⟩) | (with_reducible exact ⟨(x_a.asideD (by omega)).c0, (x_a.asideD (by omega)).c1, (x_a.asideD (by omega)).c2, (x_a.asideD (by omega)).c3, (x_a.asideD (by omega)).c4, (x_b.asideD (by omega)).c0, (x_b.asideD (by omega)).c1, (x_b.asideD (by omega)).c2, (x_b.asideD (by omega)).c3, (x_b.asideD (by omega)).c4⟩) | (with_reducible exact ⟨((x_a.asideD (by omega)).asideD (by omega)).c0, ((x_a.asideD (by omega)).asideD (by omega)).c1, ((x_a.asideD (by omega)).asideD (by omega)).c2, ((x_a.asideD (by omega)).asideD (by omega)).c3, ((x_a.asideD (by omega)).asideD (by omega)).c4, ((x_b.asideD (by omega)).asideD (by omega)).c0, ((x_b.asideD (by omega)).asideD (by omega)).c1, ((x_b.asideD (by omega)).asideD (by omega)).c2, ((x_b.asideD (by omega)).asideD (by omega)).c3, ((x_b.asideD (by omega)).asideD (by omega)).c4⟩) | (with_reducible exact ⟨(x_a.asideL (by omega)).c0, (x_a.asideL (by omega)).c1, (x_a.asideL (by omega)).c2, (x_a.asideL (by omega)).c3, (x_a.asideL (by omega)).c4, (x_b.asideL (by omega)).c0, (x_b.asideL (by omega)).c1, (x_b.asideL (by omega)).c2, (x_b.asideL (by omega)).c3, (x_b.asideL (by omega)).c4⟩) | (with_reducible exact ⟨((x_a.asideL (by omega)).asideL (by omega)).c0, ((x_a.asideL (by omega)).asideL (by omega)).c1, ((x_a.asideL (by omega)).asideL (by omega)).c2, ((x_a.asideL (by omega)).asideL (by omega)).c3, ((x_a.asideL (by omega)).asideL (by omega)).c4, ((x_b.asideL (by omega)).asideL (by omega)).c0, ((x_b.asideL (by omega)).asideL (by omega)).c1, ((x_b.asideL (by omega)).asideL (by omega)).c2, ((x_b.asideL (by omega)).asideL (by omega)).c3, ((x_b.asideL (by omega)).asideL (by omega)).c4⟩) | go_keep)
        (first | (go_at_call 22; (with_reducible refine (Meets_any za.drw zb.drw zc.drw zd.drw (by omega) (by omega) (by omega) (by omega)).mono ?_); rintro e v13 ⟨rfl, hb1⟩; replace hb1 := undrew hb1; replace x_a := x_a.keep hb1; replace x_b := x_b.keep hb1; replace x_c := x_c.keep hb1; replace hT := hT.keep hb1; replace za := za.keep hb1; replace zb := zb.keep hb1; replace zc := zc.keep hb1; replace zd := zd.keep hb1; replace ze := ze.keep hb1; replace zf := zf.keep hb1; replace hb := bthen hb hb1; clear hb1; replace q_a0 := x_a.c0; replace f_a0 := x_a.fr 0; replace q_a1 := x_a.c1; replace f_a1 := x_a.fr 1; replace q_a2 := x_a.c2; replace f_a2 := x_a.fr 2; replace q_a3 := x_a.c3; replace f_a3 := x_a.fr 3; replace q_a4 := x_a.c4; replace f_a4 := x_a.fr 4; replace q_b0 := x_b.c0; replace f_b0 := x_b.fr 0; replace q_b1 := x_b.c1; replace f_b1 := x_b.fr 1; replace q_b2 := x_b.c2; replace f_b2 := x_b.fr 2; replace q_b3 := x_b.c3; replace f_b3 := x_b.fr 3; replace q_b4 := x_b.c4; replace f_b4 := x_b.fr 4; replace q_c0 := x_c.c0; replace f_c0 := x_c.fr 0; replace q_c1 := x_c.c1; replace f_c1 := x_c.fr 1; replace q_c2 := x_c.c2; replace f_c2 := x_c.fr 2; replace q_c3 := x_c.c3; replace f_c3 := x_c.fr 3; replace q_c4 := x_c.c4; replace f_c4 := x_c.fr 4; rw [HM1.out]) | (go_at_call 22; (with_reducible refine (Meets_any zc zd za zb (by omega) (by omega) (by omega) (by omega)).mono ?_); rintro e v14 ⟨rfl, hb1⟩; replace x_a := x_a.keep hb1; replace x_b := x_b.keep hb1; replace x_c := x_c.keep hb1; replace hT := hT.keep hb1; replace za := za.keep hb1; replace zb := zb.keep hb1; replace zc := zc.keep hb1; replace zd := zd.keep hb1; replace ze := ze.keep hb1; replace zf := zf.keep hb1; replace hb := bthen hb hb1; clear hb1; replace q_a0 := x_a.c0; replace f_a0 := x_a.fr 0; replace q_a1 := x_a.c1; replace f_a1 := x_a.fr 1; replace q_a2 := x_a.c2; replace f_a2 := x_a.fr 2; replace q_a3 := x_a.c3; replace f_a3 := x_a.fr 3; replace q_a4 := x_a.c4; replace f_a4 := x_a.fr 4; replace q_b0 := x_b.c0; replace f_b0 := x_b.fr 0; replace q_b1 := x_b.c1; replace f_b1 := x_b.fr 1; replace q_b2 := x_b.c2; replace f_b2 := x_b.fr 2; replace q_b3 := x_b.c3; replace f_b3 := x_b.fr 3; replace q_b4 := x_b.c4; replace f_b4 := x_b.fr 4; replace q_c0 := x_c.c0; replace f_c0 := x_c.fr 0; replace q_c1 := x_c.c1; replace f_c1 := x_c.fr 1; replace q_c2 := x_c.c2; replace f_c2 := x_c.fr 2; replace q_c3 := x_c.c3; replace f_c3 := x_c.fr 3; replace q_c4 := x_c.c4; replace f_c4 := x_c.fr 4; rw [HM2.out]) | (go_at_call 18; (with_reducible refine (Inside_any za zb za zb (by omega) (by omega) (by omega) (by omega)).mono ?_); rintro e v15 ⟨rfl, hb1⟩; replace x_a := x_a.keep hb1; replace x_b := x_b.keep hb1; replace x_c := x_c.keep hb1; replace hT := hT.keep hb1; replace za := za.keep hb1; replace zb := zb.keep hb1; replace zc := zc.keep hb1; replace zd := zd.keep hb1; replace ze := ze.keep hb1; replace zf := zf.keep hb1; replace hb := bthen hb hb1; clear hb1; replace q_a0 := x_a.c0; replace f_a0 := x_a.fr 0; replace q_a1 := x_a.c1; replace f_a1 := x_a.fr 1; replace q_a2 := x_a.c2; replace f_a2 := x_a.fr 2; replace q_a3 := x_a.c3; replace f_a3 := x_a.fr 3; replace q_a4 := x_a.c4; replace f_a4 := x_a.fr 4; replace q_b0 := x_b.c0; replace f_b0 := x_b.fr 0; replace q_b1 := x_b.c1; replace f_b1 := x_b.fr 1; replace q_b2 := x_b.c2; replace f_b2 := x_b.fr 2; replace q_b3 := x_b.c3; replace f_b3 := x_b.fr 3; replace q_b4 := x_b.c4; replace f_b4 := x_b.fr 4; replace q_c0 := x_c.c0; replace f_c0 := x_c.fr 0; replace q_c1 := x_c.c1; replace f_c1 := x_c.fr 1; replace q_c2 := x_c.c2; replace f_c2 := x_c.fr 2; replace q_c3 := x_c.c3; replace f_c3 := x_c.fr 3; replace q_c4 := x_c.c4; replace f_c4 := x_c.fr 4; rw [HI.out]) | (go_at_call 22; (with_reducible refine (Meets_any za zb za zb (by omega) (by omega) (by omega) (by omega)).mono ?_); rintro e v16 ⟨rfl, hb1⟩; replace x_a := x_a.keep hb1; replace x_b := x_b.keep hb1; replace x_c := x_c.keep hb1; replace hT := hT.keep hb1; replace za := za.keep hb1; replace zb := zb.keep hb1; replace zc := zc.keep hb1; replace zd := zd.keep hb1; replace ze := ze.keep hb1; replace zf := zf.keep hb1; replace hb := bthen hb hb1; clear hb1; replace q_a0 := x_a.c0; replace f_a0 := x_a.fr 0; replace q_a1 := x_a.c1; replace f_a1 := x_a.fr 1; replace q_a2 := x_a.c2; replace f_a2 := x_a.fr 2; replace q_a3 := x_a.c3; replace f_a3 := x_a.fr 3; replace q_a4 := x_a.c4; replace f_a4 := x_a.fr 4; replace q_b0 := x_b.c0; replace f_b0 := x_b.fr 0; replace q_b1 := x_b.c1; replace f_b1 := x_b.fr 1; replace q_b2 := x_b.c2; replace f_b2 := x_b.fr 2; replace q_b3 := x_b.c3; replace f_b3 := x_b.fr 3; replace q_b4 := x_b.c4; replace f_b4 := x_b.fr 4; replace q_c0 := x_c.c0; replace f_c0 := x_c.fr 0; replace q_c1 := x_c.c1; replace f_c1 := x_c.fr 1; replace q_c2 := x_c.c2; replace f_c2 := x_c.fr 2; replace q_c3 := x_c.c3; replace f_c3 := x_c.fr 3; replace q_c4 := x_c.c4; replace f_c4 := x_c.fr 4; rw [HS.out]))
      go_wp2
      go_ret
      first | exact ⟨rfl, hb⟩ | exact ⟨by simp, hb⟩
    · have H2 := Lib.hid hi2
      have H3 := Lib.hid (t1 hi1 hi2)
      clear hi1 hi2 t1 t2
      skip
      with_reducible refine (Inside_any za zb zc zd (by omega) (by omega) (by omega) (by omega)).mono ?_
      rintro e v9 ⟨rfl, hb1⟩
      replace x_a := x_a.keep hb1
      replace x_b := x_b.keep hb1
      replace x_c := x_c.keep hb1
      replace hT := hT.keep hb1
      replace za := za.keep hb1
      replace zb := zb.keep hb1
      replace zc := zc.keep hb1
      replace zd := zd.keep hb1
      replace ze := ze.keep hb1
      replace zf := zf.keep hb1
      replace hb := bthen hb hb1
      clear hb1
      replace q_a0 := x_a.c0; replace f_a0 := x_a.fr 0; replace q_a1 := x_a.c1; replace f_a1 := x_a.fr 1; replace q_a2 := x_a.c2; replace f_a2 := x_a.fr 2; replace q_a3 := x_a.c3; replace f_a3 := x_a.fr 3; replace q_a4 := x_a.c4; replace f_a4 := x_a.fr 4
      replace q_b0 := x_b.c0; replace f_b0 := x_b.fr 0; replace q_b1 := x_b.c1; replace f_b1 := x_b.fr 1; replace q_b2 := x_b.c2; replace f_b2 := x_b.fr 2; replace q_b3 := x_b.c3; replace f_b3 := x_b.fr 3; replace q_b4 := x_b.c4; replace f_b4 := x_b.fr 4
      replace q_c0 := x_c.c0; replace f_c0 := x_c.fr 0; replace q_c1 := x_c.c1; replace f_c1 := x_c.fr 1; replace q_c2 := x_c.c2; replace f_c2 := x_c.fr 2; replace q_c3 := x_c.c3; replace f_c3 := x_c.fr 3; replace q_c4 := x_c.c4; replace f_c4 := x_c.fr 4
      rw [H1.out]
      go_wp2_with fail
      with_reducible refine (Inside_any zc zd ze zf (by omega) (by omega) (by omega) (by omega)).mono ?_
      rintro e v10 ⟨rfl, hb1⟩
      replace x_a := x_a.keep hb1
      replace x_b := x_b.keep hb1
      replace x_c := x_c.keep hb1
      replace hT := hT.keep hb1
      replace za := za.keep hb1
      replace zb := zb.keep hb1
      replace zc := zc.keep hb1
      replace zd := zd.keep hb1
      replace ze := ze.keep hb1
      replace zf := zf.keep hb1
      replace hb := bthen hb hb1
      clear hb1
      replace q_a0 := x_a.c0; replace f_a0 := x_a.fr 0; replace q_a1 := x_a.c1; replace f_a1 := x_a.fr 1; replace q_a2 := x_a.c2; replace f_a2 := x_a.fr 2; replace q_a3 := x_a.c3; replace f_a3 := x_a.fr 3; replace q_a4 := x_a.c4; replace f_a4 := x_a.fr 4
      replace q_b0 := x_b.c0; replace f_b0 := x_b.fr 0; replace q_b1 := x_b.c1; replace f_b1 := x_b.fr 1; replace q_b2 := x_b.c2; replace f_b2 := x_b.fr 2; replace q_b3 := x_b.c3; replace f_b3 := x_b.fr 3; replace q_b4 := x_b.c4; replace f_b4 := x_b.fr 4
      replace q_c0 := x_c.c0; replace f_c0 := x_c.fr 0; replace q_c1 := x_c.c1; replace f_c1 := x_c.fr 1; replace q_c2 := x_c.c2; replace f_c2 := x_c.fr 2; replace q_c3 := x_c.c3; replace f_c3 := x_c.fr 3; replace q_c4 := x_c.c4; replace f_c4 := x_c.fr 4
      rw [H2.out]
      go_wp2_with fail
      with_reducible refine (Inside_any za zb ze zf (by omega) (by omega) (by omega) (by omega)).mono ?_
      rintro e v11 ⟨rfl, hb1⟩
      replace x_a := x_a.keep hb1
      replace x_b := x_b.keep hb1
      replace x_c := x_c.keep hb1
      replace hT := hT.keep hb1
      replace za := za.keep hb1
      replace zb := zb.keep hb1
      replace zc := zc.keep hb1
      replace zd := zd.keep hb1
      replace ze := ze.keep hb1
      replace zf := zf.keep hb1
      replace hb := bthen hb hb1
      clear hb1
      replace q_a0 := x_a.c0; replace f_a0 := x_a.fr 0; replace q_a1 := x_a.c1; replace f_a1 := x_a.fr 1; replace q_a2 := x_a.c2; replace f_a2 := x_a.fr 2; replace q_a3 := x_a.c3; replace f_a3 := x_a.fr 3; replace q_a4 := x_a.c4; replace f_a4 := x_a.fr 4
      replace q_b0 := x_b.c0; replace f_b0 := x_b.fr 0; replace q_b1 := x_b.c1; replace f_b1 := x_b.fr 1; replace q_b2 := x_b.c2; replace f_b2 := x_b.fr 2; replace q_b3 := x_b.c3; replace f_b3 := x_b.fr 3; replace q_b4 := x_b.c4; replace f_b4 := x_b.fr 4
      replace q_c0 := x_c.c0; replace f_c0 := x_c.fr 0; replace q_c1 := x_c.c1; replace f_c1 := x_c.fr 1; replace q_c2 := x_c.c2; replace f_c2 := x_c.fr 2; replace q_c3 := x_c.c3; replace f_c3 := x_c.fr 3; replace q_c4 := x_c.c4; replace f_c4 := x_c.fr 4
      rw [H3.out]
      go_wp2_with fail
      with_reducible refine (Inside_any za zb zc zd (by omega) (by omega) (by omega) (by omega)).mono ?_
      rintro e v12 ⟨rfl, hb1⟩
      replace x_a := x_a.keep hb1
      replace x_b := x_b.keep hb1
      replace x_c := x_c.keep hb1
      replace hT := hT.keep hb1
      replace za := za.keep hb1
      replace zb := zb.keep hb1
      replace zc := zc.keep hb1
      replace zd := zd.keep hb1
      replace ze := ze.keep hb1
      replace zf := zf.keep hb1
      replace hb := bthen hb hb1
      clear hb1
      replace q_a0 := x_a.c0; replace f_a0 := x_a.fr 0; replace q_a1 := x_a.c1; replace f_a1 := x_a.fr 1; replace q_a2 := x_a.c2; replace f_a2 := x_a.fr 2; replace q_a3 := x_a.c3; replace f_a3 := x_a.fr 3; replace q_a4 := x_a.c4; replace f_a4 := x_a.fr 4
      replace q_b0 := x_b.c0; replace f_b0 := x_b.fr 0; replace q_b1 := x_b.c1; replace f_b1 := x_b.fr 1; replace q_b2 := x_b.c2; replace f_b2 := x_b.fr 2; replace q_b3 := x_b.c3; replace f_b3 := x_b.fr 3; replace q_b4 := x_b.c4; replace f_b4 := x_b.fr 4
      replace q_c0 := x_c.c0; replace f_c0 := x_c.fr 0; replace q_c1 := x_c.c1; replace f_c1 := x_c.fr 1; replace q_c2 := x_c.c2; replace f_c2 := x_c.fr 2; replace q_c3 := x_c.c3; replace f_c3 := x_c.fr 3; replace q_c4 := x_c.c4; replace f_c4 := x_c.fr 4
      rw [H1.out]
      go_wp2_with fail
      with_reducible refine (Meets_any za zb zc zd (by omega) (by omega) (by omega) (by omega)).mono ?_
      rintro e v13 ⟨rfl, hb1⟩
      replace x_a := x_a.keep hb1
      replace x_b := x_b.keep hb1
      replace x_c := x_c.keep hb1
      replace hT := hT.keep hb1
      replace za := za.keep hb1
      replace zb := zb.keep hb1
      replace zc := zc.keep hb1
      replace zd := zd.keep hb1
      replace ze := ze.keep hb1
      replace zf := zf.keep hb1
      replace hb := bthen hb hb1
      clear hb1
      replace q_a0 := x_a.c0; replace f_a0 := x_a.fr 0; replace q_a1 := x_a.c1; replace f_a1 := x_a.fr 1; replace q_a2 := x_a.c2; replace f_a2 := x_a.fr 2; replace q_a3 := x_a.c3; replace f_a3 := x_a.fr 3; replace q_a4 := x_a.c4; replace f_a4 := x_a.fr 4
      replace q_b0 := x_b.c0; replace f_b0 := x_b.fr 0; replace q_b1 := x_b.c1; replace f_b1 := x_b.fr 1; replace q_b2 := x_b.c2; replace f_b2 := x_b.fr 2; replace q_b3 := x_b.c3; replace f_b3 := x_b.fr 3; replace q_b4 := x_b.c4; replace f_b4 := x_b.fr 4
      replace q_c0 := x_c.c0; replace f_c0 := x_c.fr 0; replace q_c1 := x_c.c1; replace f_c1 := x_c.fr 1; replace q_c2 := x_c.c2; replace f_c2 := x_c.fr 2; replace q_c3 := x_c.c3; replace f_c3 := x_c.fr 3; replace q_c4 := x_c.c4; replace f_c4 := x_c.fr 4
      rw [HM1.out]
      go_wp2_with fail
      go_region_held3 (fun w' => w'.cell? ⟨w.heap.size, 0, none⟩ = some (.bool d1) ∧ w'.cell? ⟨w.heap.size, 1, none⟩ = some (.slice E1 m1 k1) ∧ w'.cell? ⟨w.heap.size, 2, none⟩ = some (.bool d2) ∧ w'.cell? ⟨w.heap.size, 3, none⟩ = some (.slice E2 m2 k2) ∧ w'.cell? ⟨w.heap.size, 4, none⟩ = some (.int .i64 q1) ∧ w'.cell? ⟨w.heap.size + 1, 0, none⟩ = some (.bool d3) ∧ w'.cell? ⟨w.heap.size + 1, 1, none⟩ = some (.slice E3 m3 k3) ∧ w'.cell? ⟨w.heap.size + 1, 2, none⟩ = some (.bool d4) ∧ w'.cell? ⟨w.heap.size + 1, 3, none⟩ = some (.slice E4 m4 k4) ∧ w'.cell? ⟨w.heap.size + 1, 4, none⟩ = some (.int .i64 q2))
        (first | (with_reducible exact ⟨x_a.c0, x_a.c1, x_a.c2, x_a.c3, x_a.c4, x_b.c0, x_b.c1, x_b.c2, x_b.c3, x_b.c4⟩) | (with_reducible exact ⟨(x_a.aside (by omega)).c0, (x_a.aside (by omega)).c1, (x_a.aside (by omega)).c2, (x_a.aside (by omega)).c3, (x_a.aside (by omega)).c4, (x_b.aside (by omega)).c0, (x_b.aside (by omega)).c1, (x_b.aside (by omega)).c2, (x_b.aside (by omega)).c3, (x_b.aside (by omega)).c4⟩) | (with_reducible exact ⟨((x_a.aside (by omega)).aside (by omega)).c0, ((x_a.aside (by omega)).aside (by omega)).c1, ((x_a.aside (by omega)).aside (by omega)).c2, ((x_a.aside (by omega)).aside (by omega)).c3, ((x_a.aside (by omega)).aside (by omega)).c4, ((x_b.aside (by omega)).aside (by omega)).c0, ((x_b.aside (by omega)).aside (by omega)).c1, ((x_b.aside (by omega)).aside (by omega)).c2, ((x_b.aside (by omega)).aside (by omega)).c3, ((x_b.aside (by omega)).aside (by omega)).c4⟩) | (with_reducible exact ⟨(x_a.asideD (by omega)).c0, (x_a.asideD (by omega)).c1, (x_a.asideD (by omega)).c2, (x_a.asideD (by omega)).c3, (x_a.asideD (by omega)).c4, (x_b.asideD (by omega)).c0, (x_b.asideD (by omega)).c1, (x_b.asideD (by omega)).c2, (x_b.asideD (by omega)).c3, (x_b.asideD (by omega)).c4⟩) | (with_reducible exact ⟨((x_a.asideD (by omega)).asideD (by omega)).c0, ((x_a.asideD (by omega)).asideD (by omega)).c1, ((x_a.asideD (by omega)).asideD (by omega)).c2, ((x_a.asideD (by omega)).asideD (by omega)).c3, ((x_a.asideD (by omega)).asideD (by omega)).c4, ((x_b.asideD (by omega)).asideD (by omega)).c0, ((x_b.asideD (by omega)).asideD (by omega)).c1, ((x_b.asideD (by omega)).asideD (by omega)).c2, ((x_b.asideD (by omega)).asideD (by omega)).c3, ((x_b.asideD (by omega)).asideD (by omega)).c4⟩) | (with_reducible exact ⟨(x_a.asideL (by omega)).c0, (x_a.asideL (by omega)).c1, (x_a.asideL (by omega)).c2, (x_a.asideL (by omega)).c3, (x_a.asideL (by omega)).c4, (x_b.asideL (by omega)).c0, (x_b.asideL (by omega)).c1, (x_b.asideL (by omega)).c2, (x_b.asideL (by omega)).c3, (x_b.asideL (by omega)).c4⟩) | (with_reducible exact ⟨((x_a.asideL (by omega)).asideL (by omega)).c0, ((x_a.asideL (by omega)).asideL (by omega)).c1, ((x_a.asideL (by omega)).asideL (by omega)).c2, ((x_a.asideL (by omega)).asideL (by omega)).c3, ((x_a.asideL (by omega)).asideL (by omega)).c4, ((x_b.asideL (by omega)).asideL (by omega)).c0, ((x_b.asideL (by omega)).asideL (by omega)).c1, ((x_b.asideL (by omega)).asideL (by omega)).c2, ((x_b.asideL (by omega)).asideL (by omega)).c3, ((x_b.asideL (by omega)).asideL (by omega)).c4⟩) | go_keep)
        (first | (go_at_call 22; (with_reducible refine (Meets_any za.drw zb.drw zc.drw zd.drw (by omega) (by omega) (by omega) (by omega)).mono ?_); rintro e v14 ⟨rfl, hb1⟩; replace hb1 := undrew hb1; replace x_a := x_a.keep hb1; replace x_b := x_b.keep hb1; replace x_c := x_c.keep hb1; replace hT := hT.keep hb1; replace za := za.keep hb1; replace zb := zb.keep hb1; replace zc := zc.keep hb1; replace zd := zd.keep hb1; replace ze := ze.keep hb1; replace zf := zf.keep hb1; replace hb := bthen hb hb1; clear hb1; replace q_a0 := x_a.c0; replace f_a0 := x_a.fr 0; replace q_a1 := x_a.c1; replace f_a1 := x_a.fr 1; replace q_a2 := x_a.c2; replace f_a2 := x_a.fr 2; replace q_a3 := x_a.c3; replace f_a3 := x_a.fr 3; replace q_a4 := x_a.c4; replace f_a4 := x_a.fr 4; replace q_b0 := x_b.c0; replace f_b0 := x_b.fr 0; replace q_b1 := x_b.c1; replace f_b1 := x_b.fr 1; replace q_b2 := x_b.c2; replace f_b2 := x_b.fr 2; replace q_b3 := x_b.c3; replace f_b3 := x_b.fr 3; replace q_b4 := x_b.c4; replace f_b4 := x_b.fr 4; replace q_c0 := x_c.c0; replace f_c0 := x_c.fr 0; replace q_c1 := x_c.c1; replace f_c1 := x_c.fr 1; replace q_c2 := x_c.c2; replace f_c2 := x_c.fr 2; replace q_c3 := x_c.c3; replace f_c3 := x_c.fr 3; replace q_c4 := x_c.c4; replace f_c4 := x_c.fr 4; rw [HM1.out]) | (go_at_call 22; (with_reducible refine (Meets_any zc zd za zb (by omega) (by omega) (by omega) (by omega)).mono ?_); rintro e v15 ⟨rfl, hb1⟩; replace x_a := x_a.keep hb1; replace x_b := x_b.keep hb1; replace x_c := x_c.keep hb1; replace hT := hT.keep hb1; replace za := za.keep hb1; replace zb := zb.keep hb1; replace zc := zc.keep hb1; replace zd := zd.keep hb1; replace ze := ze.keep hb1; replace zf := zf.keep hb1; replace hb := bthen hb hb1; clear hb1; replace q_a0 := x_a.c0; replace f_a0 := x_a.fr 0; replace q_a1 := x_a.c1; replace f_a1 := x_a.fr 1; replace q_a2 := x_a.c2; replace f_a2 := x_a.fr 2; replace q_a3 := x_a.c3; replace f_a3 := x_a.fr 3; replace q_a4 := x_a.c4; replace f_a4 := x_a.fr 4; replace q_b0 := x_b.c0; replace f_b0 := x_b.fr 0; replace q_b1 := x_b.c1; replace f_b1 := x_b.fr 1; replace q_b2 := x_b.c2; replace f_b2 := x_b.fr 2; replace q_b3 := x_b.c3; replace f_b3 := x_b.fr 3; replace q_b4 := x_b.c4; replace f_b4 := x_b.fr 4; replace q_c0 := x_c.c0; replace f_c0 := x_c.fr 0; replace q_c1 := x_c.c1; replace f_c1 := x_c.fr 1; replace q_c2 := x_c.c2; replace f_c2 := x_c.fr 2; replace q_c3 := x_c.c3; replace f_c3 := x_c.fr 3; replace q_c4 := x_c.c4; replace f_c4 := x_c.fr 4; rw [HM2.out]) | (go_at_call 18; (with_reducible refine (Inside_any za zb za zb (by omega) (by omega) (by omega) (by omega)).mono ?_); rintro e v16 ⟨rfl, hb1⟩; replace x_a := x_a.keep hb1; replace x_b := x_b.keep hb1; replace x_c := x_c.keep hb1; replace hT := hT.keep hb1; replace za := za.keep hb1; replace zb := zb.keep hb1; replace zc := zc.keep hb1; replace zd := zd.keep hb1; replace ze := ze.keep hb1; replace zf := zf.keep hb1; replace hb := bthen hb hb1; clear hb1; replace q_a0 := x_a.c0; replace f_a0 := x_a.fr 0; replace q_a1 := x_a.c1; replace f_a1 := x_a.fr 1; replace q_a2 := x_a.c2; replace f_a2 := x_a.fr 2; replace q_a3 := x_a.c3; replace f_a3 := x_a.fr 3; replace q_a4 := x_a.c4; replace f_a4 := x_a.fr 4; replace q_b0 := x_b.c0; replace f_b0 := x_b.fr 0; replace q_b1 := x_b.c1; replace f_b1 := x_b.fr 1; replace q_b2 := x_b.c2; replace f_b2 := x_b.fr 2; replace q_b3 := x_b.c3; replace f_b3 := x_b.fr 3; replace q_b4 := x_b.c4; replace f_b4 := x_b.fr 4; replace q_c0 := x_c.c0; replace f_c0 := x_c.fr 0; replace q_c1 := x_c.c1; replace f_c1 := x_c.fr 1; replace q_c2 := x_c.c2; replace f_c2 := x_c.fr 2; replace q_c3 := x_c.c3; replace f_c3 := x_c.fr 3; replace q_c4 := x_c.c4; replace f_c4 := x_c.fr 4; rw [HI.out]) | (go_at_call 22; (with_reducible refine (Meets_any za zb za zb (by omega) (by omega) (by omega) (by omega)).mono ?_); rintro e v17 ⟨rfl, hb1⟩; replace x_a := x_a.keep hb1; replace x_b := x_b.keep hb1; replace x_c := x_c.keep hb1; replace hT := hT.keep hb1; replace za := za.keep hb1; replace zb := zb.keep hb1; replace zc := zc.keep hb1; replace zd := zd.keep hb1; replace ze := ze.keep hb1; replace zf := zf.keep hb1; replace hb := bthen hb hb1; clear hb1; replace q_a0 := x_a.c0; replace f_a0 := x_a.fr 0; replace q_a1 := x_a.c1; replace f_a1 := x_a.fr 1; replace q_a2 := x_a.c2; replace f_a2 := x_a.fr 2; replace q_a3 := x_a.c3; replace f_a3 := x_a.fr 3; replace q_a4 := x_a.c4; replace f_a4 := x_a.fr 4; replace q_b0 := x_b.c0; replace f_b0 := x_b.fr 0; replace q_b1 := x_b.c1; replace f_b1 := x_b.fr 1; replace q_b2 := x_b.c2; replace f_b2 := x_b.fr 2; replace q_b3 := x_b.c3; replace f_b3 := x_b.fr 3; replace q_b4 := x_b.c4; replace f_b4 := x_b.fr 4; replace q_c0 := x_c.c0; replace f_c0 := x_c.fr 0; replace q_c1 := x_c.c1; replace f_c1 := x_c.fr 1; replace q_c2 := x_c.c2; replace f_c2 := x_c.fr 2; replace q_c3 := x_c.c3; replace f_c3 := x_c.fr 3; replace q_c4 := x_c.c4; replace f_c4 := x_c.fr 4; rw [HS.out]))
      go_wp2
      go_ret
      first | exact ⟨rfl, hb⟩ | exact ⟨by simp, hb⟩

end Go.Proofs.YtiigacddjihokaaDoor
