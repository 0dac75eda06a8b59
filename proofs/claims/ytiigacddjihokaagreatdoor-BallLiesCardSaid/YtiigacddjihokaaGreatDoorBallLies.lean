/-
  The law BallLies, as a call.
-/
import Derived.Test.YtiigacddjihokaaGreatDoorLput
import Derived.Test.YtiigacddjihokaaGreatDoorLlaw
import Derived.Test.YtiigacddjihokaaGreatDoorLrhas
import Derived.Test.YtiigacddjihokaaGreatDoorLhas
namespace Go.Proofs.YtiigacddjihokaaGreatDoor
open Go.RowKit
set_option linter.unusedVariables false

set_option maxRecDepth 100000 in
set_option maxHeartbeats 16000000 in
theorem BallLies_any {b b2 b3 b4 : Bool} {A A2 A3 A4 : Option Addr} {n c n2 c2 n3 c3 n4 c4 : Nat} {q r : Int} {l0 l1 l2 l3 : List Int} {bd : Bool} {Ad : Option Addr} {nd cd : Nat} {ed : Int} {ld : List Int} {w : World} (hT : Tab w) (g0 : Rd w w.heap.size A n c l0) (g1 : Rd w w.heap.size A2 n2 c2 l1) (g2 : Rd w w.heap.size A3 n3 c3 l2) (g3 : Rd w w.heap.size A4 n4 c4 l3) (gd : Rd w w.heap.size Ad nd cd ld) :
    Calls Tryz.prog 6 #[.agg #[.bool b, .slice A n c, .bool b2, .slice A2 n2 c2, .int .i64 q], .agg #[.bool b3, .slice A3 n3 c3, .bool b4, .slice A4 n4 c4, .int .i64 r], .agg #[.bool bd, .slice Ad nd cd, .int .i64 ed]] w fun e w' => e = .returned (.bool true) ∧ Below w.heap.size w w' := by
  go_enter Tryz.func6, Tryz.ntmps6
  go_wp2_with fail
  have x_a : Lx (w.alloc (.cells #[.bool b, .slice A n c, .bool b2, .slice A2 n2 c2, .int .i64 q] 26)) (w.heap.size) b A n c b2 A2 n2 c2 q := by have := Lx.new w b A n c b2 A2 n2 c2 q; simpa using this
  replace x_a := x_a.alloc (.cells #[.bool b3, .slice A3 n3 c3, .bool b4, .slice A4 n4 c4, .int .i64 r] 26)
  have x_b : Lx ((w.alloc (.cells #[.bool b, .slice A n c, .bool b2, .slice A2 n2 c2, .int .i64 q] 26)).alloc (.cells #[.bool b3, .slice A3 n3 c3, .bool b4, .slice A4 n4 c4, .int .i64 r] 26)) (w.heap.size + 1) b3 A3 n3 c3 b4 A4 n4 c4 r := by have := Lx.new (w.alloc (.cells #[.bool b, .slice A n c, .bool b2, .slice A2 n2 c2, .int .i64 q] 26)) b3 A3 n3 c3 b4 A4 n4 c4 r; simpa using this
  replace x_a := x_a.alloc (.cells #[.bool bd, .slice Ad nd cd, .int .i64 ed] 28)
  replace x_b := x_b.alloc (.cells #[.bool bd, .slice Ad nd cd, .int .i64 ed] 28)
  have x_d : Dx (((w.alloc (.cells #[.bool b, .slice A n c, .bool b2, .slice A2 n2 c2, .int .i64 q] 26)).alloc (.cells #[.bool b3, .slice A3 n3 c3, .bool b4, .slice A4 n4 c4, .int .i64 r] 26)).alloc (.cells #[.bool bd, .slice Ad nd cd, .int .i64 ed] 28)) (w.heap.size + 1 + 1) bd Ad nd cd ed := by have := Dx.new ((w.alloc (.cells #[.bool b, .slice A n c, .bool b2, .slice A2 n2 c2, .int .i64 q] 26)).alloc (.cells #[.bool b3, .slice A3 n3 c3, .bool b4, .slice A4 n4 c4, .int .i64 r] 26)) bd Ad nd cd ed; simpa using this
  have hb : Below w.heap.size w (((w.alloc (.cells #[.bool b, .slice A n c, .bool b2, .slice A2 n2 c2, .int .i64 q] 26)).alloc (.cells #[.bool b3, .slice A3 n3 c3, .bool b4, .slice A4 n4 c4, .int .i64 r] 26)).alloc (.cells #[.bool bd, .slice Ad nd cd, .int .i64 ed] 28)) := (Below.alloc (Below.alloc (Below.alloc (Below.refl w.heap.size w) (by simp) (.cells #[.bool b, .slice A n c, .bool b2, .slice A2 n2 c2, .int .i64 q] 26)) (by simp) (.cells #[.bool b3, .slice A3 n3 c3, .bool b4, .slice A4 n4 c4, .int .i64 r] 26)) (by simp; omega) (.cells #[.bool bd, .slice Ad nd cd, .int .i64 ed] 28))
  generalize ((w.alloc (.cells #[.bool b, .slice A n c, .bool b2, .slice A2 n2 c2, .int .i64 q] 26)).alloc (.cells #[.bool b3, .slice A3 n3 c3, .bool b4, .slice A4 n4 c4, .int .i64 r] 26)).alloc (.cells #[.bool bd, .slice Ad nd cd, .int .i64 ed] 28) = v1 at *
  replace g0 := g0.go hb
  replace g1 := g1.go hb
  replace g2 := g2.go hb
  replace g3 := g3.go hb
  replace gd := gd.go hb
  replace hT := hT.keep hb
  obtain ⟨q_a0, f_a0, q_a1, f_a1, q_a2, f_a2, q_a3, f_a3, q_a4, f_a4⟩ := x_a.al
  obtain ⟨q_b0, f_b0, q_b1, f_b1, q_b2, f_b2, q_b3, f_b3, q_b4, f_b4⟩ := x_b.al
  obtain ⟨q_d0, f_d0, q_d1, f_d1, q_d2, f_d2⟩ := x_d.al
  go_wp2_with fail
  with_reducible refine (Lshown_any hT).mono ?_
  rintro e v2 ⟨rfl, hb1⟩
  replace x_a := x_a.keep hb1
  replace x_b := x_b.keep hb1
  replace x_d := x_d.keep hb1
  replace g0 := g0.go hb1
  replace g1 := g1.go hb1
  replace g2 := g2.go hb1
  replace g3 := g3.go hb1
  replace gd := gd.go hb1
  replace hT := hT.keep hb1
  replace hb := bthen hb hb1
  clear hb1
  clear q_a0 f_a0 q_a1 f_a1 q_a2 f_a2 q_a3 f_a3 q_a4 f_a4; obtain ⟨q_a0, f_a0, q_a1, f_a1, q_a2, f_a2, q_a3, f_a3, q_a4, f_a4⟩ := x_a.al
  clear q_b0 f_b0 q_b1 f_b1 q_b2 f_b2 q_b3 f_b3 q_b4 f_b4; obtain ⟨q_b0, f_b0, q_b1, f_b1, q_b2, f_b2, q_b3, f_b3, q_b4, f_b4⟩ := x_b.al
  clear q_d0 f_d0 q_d1 f_d1 q_d2 f_d2; obtain ⟨q_d0, f_d0, q_d1, f_d1, q_d2, f_d2⟩ := x_d.al
  go_wp2_with fail
  with_reducible refine (Lcut_at g0 g1 8 8 rfl (by omega)).mono ?_
  rintro e v3 ⟨E1, m1, k1, F1, s1, t1, rfl, p2, h2, p3, h3, hb1⟩
  replace x_a := x_a.keep hb1
  replace x_b := x_b.keep hb1
  replace x_d := x_d.keep hb1
  replace g0 := g0.go hb1
  replace g1 := g1.go hb1
  replace g2 := g2.go hb1
  replace g3 := g3.go hb1
  replace gd := gd.go hb1
  replace hT := hT.keep hb1
  replace hb := bthen hb hb1
  clear hb1
  clear q_a0 f_a0 q_a1 f_a1 q_a2 f_a2 q_a3 f_a3 q_a4 f_a4; obtain ⟨q_a0, f_a0, q_a1, f_a1, q_a2, f_a2, q_a3, f_a3, q_a4, f_a4⟩ := x_a.al
  clear q_b0 f_b0 q_b1 f_b1 q_b2 f_b2 q_b3 f_b3 q_b4 f_b4; obtain ⟨q_b0, f_b0, q_b1, f_b1, q_b2, f_b2, q_b3, f_b3, q_b4, f_b4⟩ := x_b.al
  clear q_d0 f_d0 q_d1 f_d1 q_d2 f_d2; obtain ⟨q_d0, f_d0, q_d1, f_d1, q_d2, f_d2⟩ := x_d.al
  clear g0 g1
  go_wp2_with fail
  replace x_b := x_b.asideL (b' := b) (A' := E1) (n' := m1) (c' := k1) (p' := b2) (B' := F1) (m' := s1) (d' := t1) (e' := q) (g := w.heap.size) (by omega)
  replace x_d := x_d.asideL (b' := b) (A' := E1) (n' := m1) (c' := k1) (p' := b2) (B' := F1) (m' := s1) (d' := t1) (e' := q) (g := w.heap.size) (by omega)
  replace g2 := g2.sputL (b' := b) (A' := E1) (n' := m1) (c' := k1) (p' := b2) (B' := F1) (m' := s1) (d' := t1) (e' := q) x_a
  replace g3 := g3.sputL (b' := b) (A' := E1) (n' := m1) (c' := k1) (p' := b2) (B' := F1) (m' := s1) (d' := t1) (e' := q) x_a
  replace gd := gd.sputL (b' := b) (A' := E1) (n' := m1) (c' := k1) (p' := b2) (B' := F1) (m' := s1) (d' := t1) (e' := q) x_a
  replace hT := hT.putL (b' := b) (A' := E1) (n' := m1) (c' := k1) (p' := b2) (B' := F1) (m' := s1) (d' := t1) (e' := q) x_a
  replace p2 := p2.sputL (b' := b) (A' := E1) (n' := m1) (c' := k1) (p' := b2) (B' := F1) (m' := s1) (d' := t1) (e' := q) x_a
  replace p3 := p3.sputL (b' := b) (A' := E1) (n' := m1) (c' := k1) (p' := b2) (B' := F1) (m' := s1) (d' := t1) (e' := q) x_a
  replace hb := put_belowL (g := w.heap.size) hb (by omega) (.bool b) (.slice E1 m1 k1) (.bool b2) (.slice F1 s1 t1) (.int .i64 q)
  replace x_a := x_a.put b E1 m1 k1 b2 F1 s1 t1 q
  clear q_a0 f_a0 q_a1 f_a1 q_a2 f_a2 q_a3 f_a3 q_a4 f_a4 q_b0 f_b0 q_b1 f_b1 q_b2 f_b2 q_b3 f_b3 q_b4 f_b4 q_d0 f_d0 q_d1 f_d1 q_d2 f_d2
  generalize ((((v3.setCell ⟨w.heap.size, 0, none⟩ (.bool b)).setCell ⟨w.heap.size, 1, none⟩ (.slice E1 m1 k1)).setCell ⟨w.heap.size, 2, none⟩ (.bool b2)).setCell ⟨w.heap.size, 3, none⟩ (.slice F1 s1 t1)).setCell ⟨w.heap.size, 4, none⟩ (.int .i64 q) = v4 at *
  obtain ⟨q_a0, f_a0, q_a1, f_a1, q_a2, f_a2, q_a3, f_a3, q_a4, f_a4⟩ := x_a.al
  obtain ⟨q_b0, f_b0, q_b1, f_b1, q_b2, f_b2, q_b3, f_b3, q_b4, f_b4⟩ := x_b.al
  obtain ⟨q_d0, f_d0, q_d1, f_d1, q_d2, f_d2⟩ := x_d.al
  with_reducible refine (Lcut_at g2 g3 8 8 rfl (by omega)).mono ?_
  rintro e v5 ⟨E2, m2, k2, F2, s2, t2, rfl, p4, h4, p5, h5, hb1⟩
  replace x_a := x_a.keep hb1
  replace x_b := x_b.keep hb1
  replace x_d := x_d.keep hb1
  replace g2 := g2.go hb1
  replace g3 := g3.go hb1
  replace gd := gd.go hb1
  replace hT := hT.keep hb1
  replace p2 := p2.go hb1
  replace p3 := p3.go hb1
  replace hb := bthen hb hb1
  clear hb1
  clear q_a0 f_a0 q_a1 f_a1 q_a2 f_a2 q_a3 f_a3 q_a4 f_a4; obtain ⟨q_a0, f_a0, q_a1, f_a1, q_a2, f_a2, q_a3, f_a3, q_a4, f_a4⟩ := x_a.al
  clear q_b0 f_b0 q_b1 f_b1 q_b2 f_b2 q_b3 f_b3 q_b4 f_b4; obtain ⟨q_b0, f_b0, q_b1, f_b1, q_b2, f_b2, q_b3, f_b3, q_b4, f_b4⟩ := x_b.al
  clear q_d0 f_d0 q_d1 f_d1 q_d2 f_d2; obtain ⟨q_d0, f_d0, q_d1, f_d1, q_d2, f_d2⟩ := x_d.al
  clear g2 g3
  go_wp2_with fail
  replace x_a := x_a.asideL (b' := b3) (A' := E2) (n' := m2) (c' := k2) (p' := b4) (B' := F2) (m' := s2) (d' := t2) (e' := r) (g := w.heap.size + 1) (by omega)
  replace x_d := x_d.asideL (b' := b3) (A' := E2) (n' := m2) (c' := k2) (p' := b4) (B' := F2) (m' := s2) (d' := t2) (e' := r) (g := w.heap.size + 1) (by omega)
  replace gd := gd.sputL (b' := b3) (A' := E2) (n' := m2) (c' := k2) (p' := b4) (B' := F2) (m' := s2) (d' := t2) (e' := r) x_b
  replace hT := hT.putL (b' := b3) (A' := E2) (n' := m2) (c' := k2) (p' := b4) (B' := F2) (m' := s2) (d' := t2) (e' := r) x_b
  replace p2 := p2.sputL (b' := b3) (A' := E2) (n' := m2) (c' := k2) (p' := b4) (B' := F2) (m' := s2) (d' := t2) (e' := r) x_b
  replace p3 := p3.sputL (b' := b3) (A' := E2) (n' := m2) (c' := k2) (p' := b4) (B' := F2) (m' := s2) (d' := t2) (e' := r) x_b
  replace p4 := p4.sputL (b' := b3) (A' := E2) (n' := m2) (c' := k2) (p' := b4) (B' := F2) (m' := s2) (d' := t2) (e' := r) x_b
  replace p5 := p5.sputL (b' := b3) (A' := E2) (n' := m2) (c' := k2) (p' := b4) (B' := F2) (m' := s2) (d' := t2) (e' := r) x_b
  replace hb := put_belowL (g := w.heap.size + 1) hb (by omega) (.bool b3) (.slice E2 m2 k2) (.bool b4) (.slice F2 s2 t2) (.int .i64 r)
  replace x_b := x_b.put b3 E2 m2 k2 b4 F2 s2 t2 r
  clear q_a0 f_a0 q_a1 f_a1 q_a2 f_a2 q_a3 f_a3 q_a4 f_a4 q_b0 f_b0 q_b1 f_b1 q_b2 f_b2 q_b3 f_b3 q_b4 f_b4 q_d0 f_d0 q_d1 f_d1 q_d2 f_d2
  generalize ((((v5.setCell ⟨w.heap.size + 1, 0, none⟩ (.bool b3)).setCell ⟨w.heap.size + 1, 1, none⟩ (.slice E2 m2 k2)).setCell ⟨w.heap.size + 1, 2, none⟩ (.bool b4)).setCell ⟨w.heap.size + 1, 3, none⟩ (.slice F2 s2 t2)).setCell ⟨w.heap.size + 1, 4, none⟩ (.int .i64 r) = v6 at *
  obtain ⟨q_a0, f_a0, q_a1, f_a1, q_a2, f_a2, q_a3, f_a3, q_a4, f_a4⟩ := x_a.al
  obtain ⟨q_b0, f_b0, q_b1, f_b1, q_b2, f_b2, q_b3, f_b3, q_b4, f_b4⟩ := x_b.al
  obtain ⟨q_d0, f_d0, q_d1, f_d1, q_d2, f_d2⟩ := x_d.al
  with_reducible refine (Lim_at gd 8 8 rfl (by omega)).mono ?_
  rintro e v7 ⟨E3, m3, k3, rfl, p6, h6, hb1⟩
  replace x_a := x_a.keep hb1
  replace x_b := x_b.keep hb1
  replace x_d := x_d.keep hb1
  replace gd := gd.go hb1
  replace hT := hT.keep hb1
  replace p2 := p2.go hb1
  replace p3 := p3.go hb1
  replace p4 := p4.go hb1
  replace p5 := p5.go hb1
  replace hb := bthen hb hb1
  clear hb1
  clear q_a0 f_a0 q_a1 f_a1 q_a2 f_a2 q_a3 f_a3 q_a4 f_a4; obtain ⟨q_a0, f_a0, q_a1, f_a1, q_a2, f_a2, q_a3, f_a3, q_a4, f_a4⟩ := x_a.al
  clear q_b0 f_b0 q_b1 f_b1 q_b2 f_b2 q_b3 f_b3 q_b4 f_b4; obtain ⟨q_b0, f_b0, q_b1, f_b1, q_b2, f_b2, q_b3, f_b3, q_b4, f_b4⟩ := x_b.al
  clear q_d0 f_d0 q_d1 f_d1 q_d2 f_d2; obtain ⟨q_d0, f_d0, q_d1, f_d1, q_d2, f_d2⟩ := x_d.al
  clear gd
  go_wp2_with fail
  replace x_a := x_a.aside (b' := bd) (A' := E3) (n' := m3) (c' := k3) (g := w.heap.size + 1 + 1) (by omega)
  replace x_b := x_b.aside (b' := bd) (A' := E3) (n' := m3) (c' := k3) (g := w.heap.size + 1 + 1) (by omega)
  replace hT := hT.putM (b' := bd) (A' := E3) (n' := m3) (c' := k3) x_d
  replace p2 := p2.sputM (b' := bd) (A' := E3) (n' := m3) (c' := k3) x_d
  replace p3 := p3.sputM (b' := bd) (A' := E3) (n' := m3) (c' := k3) x_d
  replace p4 := p4.sputM (b' := bd) (A' := E3) (n' := m3) (c' := k3) x_d
  replace p5 := p5.sputM (b' := bd) (A' := E3) (n' := m3) (c' := k3) x_d
  replace p6 := p6.sputM (b' := bd) (A' := E3) (n' := m3) (c' := k3) x_d
  replace hb := put_below (g := w.heap.size + 1 + 1) hb (by omega) (.bool bd) (.slice E3 m3 k3)
  replace x_d := x_d.putM bd E3 m3 k3
  clear q_a0 f_a0 q_a1 f_a1 q_a2 f_a2 q_a3 f_a3 q_a4 f_a4 q_b0 f_b0 q_b1 f_b1 q_b2 f_b2 q_b3 f_b3 q_b4 f_b4 q_d0 f_d0 q_d1 f_d1 q_d2 f_d2
  generalize (v7.setCell ⟨w.heap.size + 1 + 1, 0, none⟩ (.bool bd)).setCell ⟨w.heap.size + 1 + 1, 1, none⟩ (.slice E3 m3 k3) = v8 at *
  obtain ⟨q_a0, f_a0, q_a1, f_a1, q_a2, f_a2, q_a3, f_a3, q_a4, f_a4⟩ := x_a.al
  obtain ⟨q_b0, f_b0, q_b1, f_b1, q_b2, f_b2, q_b3, f_b3, q_b4, f_b4⟩ := x_b.al
  obtain ⟨q_d0, f_d0, q_d1, f_d1, q_d2, f_d2⟩ := x_d.al
  obtain ⟨X, zx⟩ : ∃ X, Zr v8 b E1 m1 k1 X 8 := ⟨_, _, p2, rfl, h2⟩
  clear p2 h2
  obtain ⟨Y, zy⟩ : ∃ X, Zr v8 b2 F1 s1 t1 X 8 := ⟨_, _, p3, rfl, h3⟩
  clear p3 h3
  obtain ⟨U, zu⟩ : ∃ X, Zr v8 b3 E2 m2 k2 X 8 := ⟨_, _, p4, rfl, h4⟩
  clear p4 h4
  obtain ⟨V, zv⟩ : ∃ X, Zr v8 b4 F2 s2 t2 X 8 := ⟨_, _, p5, rfl, h5⟩
  clear p5 h5
  obtain ⟨M, zm⟩ : ∃ X, Zr v8 bd E3 m3 k3 X 8 := ⟨_, _, p6, rfl, h6⟩
  clear p6 h6
  obtain ⟨m1_, hm1⟩ : ∃ m, hasB X Y q M ed = m := ⟨_, rfl⟩
  obtain ⟨m2_, hm2⟩ : ∃ m, insB X Y q U V r = m := ⟨_, rfl⟩
  obtain ⟨m3_, hm3⟩ : ∃ m, metB X Y q U V r = m := ⟨_, rfl⟩
  have HM1 := Lib.hid hm1; have HM2 := Lib.hid hm2; have HM3 := Lib.hid hm3; clear hm1 hm2 hm3
  go_region_held3 (fun w' => w'.cell? ⟨w.heap.size, 0, none⟩ = some (.bool b) ∧ w'.cell? ⟨w.heap.size, 1, none⟩ = some (.slice E1 m1 k1) ∧ w'.cell? ⟨w.heap.size, 2, none⟩ = some (.bool b2) ∧ w'.cell? ⟨w.heap.size, 3, none⟩ = some (.slice F1 s1 t1) ∧ w'.cell? ⟨w.heap.size, 4, none⟩ = some (.int .i64 q) ∧ w'.cell? ⟨w.heap.size + 1, 0, none⟩ = some (.bool b3) ∧ w'.cell? ⟨w.heap.size + 1, 1, none⟩ = some (.slice E2 m2 k2) ∧ w'.cell? ⟨w.heap.size + 1, 2, none⟩ = some (.bool b4) ∧ w'.cell? ⟨w.heap.size + 1, 3, none⟩ = some (.slice F2 s2 t2) ∧ w'.cell? ⟨w.heap.size + 1, 4, none⟩ = some (.int .i64 r) ∧ w'.cell? ⟨w.heap.size + 1 + 1, 0, none⟩ = some (.bool bd) ∧ w'.cell? ⟨w.heap.size + 1 + 1, 1, none⟩ = some (.slice E3 m3 k3) ∧ w'.cell? ⟨w.heap.size + 1 + 1, 2, none⟩ = some (.int .i64 ed))
    (first | (with_reducible exact ⟨x_a.c0, x_a.c1, x_a.c2, x_a.c3, x_a.c4, x_b.c0, x_b.c1, x_b.c2, x_b.c3, x_b.c4, x_d.c0, x_d.c1, x_d.c2⟩) | (with_reducible exact ⟨(x_a.aside (by omega)).c0, (x_a.aside (by omega)).c1, (x_a.aside (by omega)).c2, (x_a.aside (by omega)).c3, (x_a.aside (by omega)).c4, (x_b.aside (by omega)).c0, (x_b.aside (by omega)).c1, (x_b.aside (by omega)).c2, (x_b.aside (by omega)).c3, (x_b.aside (by omega)).c4, (x_d.aside (by omega)).c0, (x_d.aside (by omega)).c1, (x_d.aside (by omega)).c2⟩) | (with_reducible exact ⟨((x_a.aside (by omega)).aside (by omega)).c0, ((x_a.aside (by omega)).aside (by omega)).c1, ((x_a.aside (by omega)).aside (by omega)).c2, ((x_a.aside (by omega)).aside (by omega)).c3, ((x_a.aside (by omega)).aside (by omega)).c4, ((x_b.aside (by omega)).aside (by omega)).c0, ((x_b.aside (by omega)).aside (by omega)).c1, ((x_b.aside (by omega)).aside (by omega)).c2, ((x_b.aside (by omega)).aside (by omega)).c3, ((x_b.aside (by omega)).aside (by omega)).c4, ((x_d.aside (by omega)).aside (by omega)).c0, ((x_d.aside (by omega)).aside (by omega)).c1, ((x_d.aside (by omega)).aside (by omega)).c2⟩) | (with_reducible exact ⟨(x_a.asideD (by omega)).c0, (x_a.asideD (by omega)).c1, (x_a.asideD (by omega)).c2, (x_a.asideD (by omega)).c3, (x_a.asideD (by omega)).c4, (x_b.asideD (by omega)).c0, (x_b.asideD (by omega)).c1, (x_b.asideD (by omega)).c2, (x_b.asideD (by omega)).c3, (x_b.asideD (by omega)).c4, (x_d.asideD (by omega)).c0, (x_d.asideD (by omega)).c1, (x_d.asideD (by omega)).c2⟩) | (with_reducible exact ⟨((x_a.asideD (by omega)).asideD (by omega)).c0, ((x_a.asideD (by omega)).asideD (by omega)).c1, ((x_a.asideD (by omega)).asideD (by omega)).c2, ((x_a.asideD (by omega)).asideD (by omega)).c3, ((x_a.asideD (by omega)).asideD (by omega)).c4, ((x_b.asideD (by omega)).asideD (by omega)).c0, ((x_b.asideD (by omega)).asideD (by omega)).c1, ((x_b.asideD (by omega)).asideD (by omega)).c2, ((x_b.asideD (by omega)).asideD (by omega)).c3, ((x_b.asideD (by omega)).asideD (by omega)).c4, ((x_d.asideD (by omega)).asideD (by omega)).c0, ((x_d.asideD (by omega)).asideD (by omega)).c1, ((x_d.asideD (by omega)).asideD (by omega)).c2⟩) | (with_reducible exact ⟨(x_a.asideL (by omega)).c0, (x_a.asideL (by omega)).c1, (x_a.asideL (by omega)).c2, (x_a.asideL (by omega)).c3, (x_a.asideL (by omega)).c4, (x_b.asideL (by omega)).c0, (x_b.asideL (by omega)).c1, (x_b.asideL (by omega)).c2, (x_b.asideL (by omega)).c3, (x_b.asideL (by omega)).c4, (x_d.asideL (by omega)).c0, (x_d.asideL (by omega)).c1, (x_d.asideL (by omega)).c2⟩) | (with_reducible exact ⟨((x_a.asideL (by omega)).asideL (by omega)).c0, ((x_a.asideL (by omega)).asideL (by omega)).c1, ((x_a.asideL (by omega)).asideL (by omega)).c2, ((x_a.asideL (by omega)).asideL (by omega)).c3, ((x_a.asideL (by omega)).asideL (by omega)).c4, ((x_b.asideL (by omega)).asideL (by omega)).c0, ((x_b.asideL (by omega)).asideL (by omega)).c1, ((x_b.asideL (by omega)).asideL (by omega)).c2, ((x_b.asideL (by omega)).asideL (by omega)).c3, ((x_b.asideL (by omega)).asideL (by omega)).c4, ((x_d.asideL (by omega)).asideL (by omega)).c0, ((x_d.asideL (by omega)).asideL (by omega)).c1, ((x_d.asideL (by omega)).asideL (by omega)).c2⟩) | go_keep)
    (first | (go_at_call 30; (with_reducible refine (Has_any zx.drw zy.drw zm.drw (by omega) (by omega) (by omega)).mono ?_); rintro e v9 ⟨rfl, hb1⟩; replace hb1 := undrew hb1; replace x_a := x_a.keep hb1; replace x_b := x_b.keep hb1; replace x_d := x_d.keep hb1; replace hT := hT.keep hb1; replace zx := zx.keep hb1; replace zy := zy.keep hb1; replace zu := zu.keep hb1; replace zv := zv.keep hb1; replace zm := zm.keep hb1; replace hb := bthen hb hb1; clear hb1; clear q_a0 f_a0 q_a1 f_a1 q_a2 f_a2 q_a3 f_a3 q_a4 f_a4; obtain ⟨q_a0, f_a0, q_a1, f_a1, q_a2, f_a2, q_a3, f_a3, q_a4, f_a4⟩ := x_a.al; clear q_b0 f_b0 q_b1 f_b1 q_b2 f_b2 q_b3 f_b3 q_b4 f_b4; obtain ⟨q_b0, f_b0, q_b1, f_b1, q_b2, f_b2, q_b3, f_b3, q_b4, f_b4⟩ := x_b.al; clear q_d0 f_d0 q_d1 f_d1 q_d2 f_d2; obtain ⟨q_d0, f_d0, q_d1, f_d1, q_d2, f_d2⟩ := x_d.al; rw [HM1.out]) | (go_at_call 31; (with_reducible refine (RHas_any zx zy zm (by omega) (by omega) (by omega)).mono ?_); rintro e v10 ⟨rfl, hb1⟩; replace x_a := x_a.keep hb1; replace x_b := x_b.keep hb1; replace x_d := x_d.keep hb1; replace hT := hT.keep hb1; replace zx := zx.keep hb1; replace zy := zy.keep hb1; replace zu := zu.keep hb1; replace zv := zv.keep hb1; replace zm := zm.keep hb1; replace hb := bthen hb hb1; clear hb1; clear q_a0 f_a0 q_a1 f_a1 q_a2 f_a2 q_a3 f_a3 q_a4 f_a4; obtain ⟨q_a0, f_a0, q_a1, f_a1, q_a2, f_a2, q_a3, f_a3, q_a4, f_a4⟩ := x_a.al; clear q_b0 f_b0 q_b1 f_b1 q_b2 f_b2 q_b3 f_b3 q_b4 f_b4; obtain ⟨q_b0, f_b0, q_b1, f_b1, q_b2, f_b2, q_b3, f_b3, q_b4, f_b4⟩ := x_b.al; clear q_d0 f_d0 q_d1 f_d1 q_d2 f_d2; obtain ⟨q_d0, f_d0, q_d1, f_d1, q_d2, f_d2⟩ := x_d.al; rw [HM1.out]) | (go_at_call 32; (with_reducible refine (Inside_any zx zy zu zv (by omega) (by omega) (by omega) (by omega)).mono ?_); rintro e v11 ⟨rfl, hb1⟩; replace x_a := x_a.keep hb1; replace x_b := x_b.keep hb1; replace x_d := x_d.keep hb1; replace hT := hT.keep hb1; replace zx := zx.keep hb1; replace zy := zy.keep hb1; replace zu := zu.keep hb1; replace zv := zv.keep hb1; replace zm := zm.keep hb1; replace hb := bthen hb hb1; clear hb1; clear q_a0 f_a0 q_a1 f_a1 q_a2 f_a2 q_a3 f_a3 q_a4 f_a4; obtain ⟨q_a0, f_a0, q_a1, f_a1, q_a2, f_a2, q_a3, f_a3, q_a4, f_a4⟩ := x_a.al; clear q_b0 f_b0 q_b1 f_b1 q_b2 f_b2 q_b3 f_b3 q_b4 f_b4; obtain ⟨q_b0, f_b0, q_b1, f_b1, q_b2, f_b2, q_b3, f_b3, q_b4, f_b4⟩ := x_b.al; clear q_d0 f_d0 q_d1 f_d1 q_d2 f_d2; obtain ⟨q_d0, f_d0, q_d1, f_d1, q_d2, f_d2⟩ := x_d.al; rw [HM2.out]) | (go_at_call 33; (with_reducible refine (RInside_any zx zy zu zv (by omega) (by omega) (by omega) (by omega)).mono ?_); rintro e v12 ⟨rfl, hb1⟩; replace x_a := x_a.keep hb1; replace x_b := x_b.keep hb1; replace x_d := x_d.keep hb1; replace hT := hT.keep hb1; replace zx := zx.keep hb1; replace zy := zy.keep hb1; replace zu := zu.keep hb1; replace zv := zv.keep hb1; replace zm := zm.keep hb1; replace hb := bthen hb hb1; clear hb1; clear q_a0 f_a0 q_a1 f_a1 q_a2 f_a2 q_a3 f_a3 q_a4 f_a4; obtain ⟨q_a0, f_a0, q_a1, f_a1, q_a2, f_a2, q_a3, f_a3, q_a4, f_a4⟩ := x_a.al; clear q_b0 f_b0 q_b1 f_b1 q_b2 f_b2 q_b3 f_b3 q_b4 f_b4; obtain ⟨q_b0, f_b0, q_b1, f_b1, q_b2, f_b2, q_b3, f_b3, q_b4, f_b4⟩ := x_b.al; clear q_d0 f_d0 q_d1 f_d1 q_d2 f_d2; obtain ⟨q_d0, f_d0, q_d1, f_d1, q_d2, f_d2⟩ := x_d.al; rw [HM2.out]) | (go_at_call 34; (with_reducible refine (Meets_any zx zy zu zv (by omega) (by omega) (by omega) (by omega)).mono ?_); rintro e v13 ⟨rfl, hb1⟩; replace x_a := x_a.keep hb1; replace x_b := x_b.keep hb1; replace x_d := x_d.keep hb1; replace hT := hT.keep hb1; replace zx := zx.keep hb1; replace zy := zy.keep hb1; replace zu := zu.keep hb1; replace zv := zv.keep hb1; replace zm := zm.keep hb1; replace hb := bthen hb hb1; clear hb1; clear q_a0 f_a0 q_a1 f_a1 q_a2 f_a2 q_a3 f_a3 q_a4 f_a4; obtain ⟨q_a0, f_a0, q_a1, f_a1, q_a2, f_a2, q_a3, f_a3, q_a4, f_a4⟩ := x_a.al; clear q_b0 f_b0 q_b1 f_b1 q_b2 f_b2 q_b3 f_b3 q_b4 f_b4; obtain ⟨q_b0, f_b0, q_b1, f_b1, q_b2, f_b2, q_b3, f_b3, q_b4, f_b4⟩ := x_b.al; clear q_d0 f_d0 q_d1 f_d1 q_d2 f_d2; obtain ⟨q_d0, f_d0, q_d1, f_d1, q_d2, f_d2⟩ := x_d.al; rw [HM3.out]) | (go_at_call 35; (with_reducible refine (RMeets_any zx zy zu zv (by omega) (by omega) (by omega) (by omega)).mono ?_); rintro e v14 ⟨rfl, hb1⟩; replace x_a := x_a.keep hb1; replace x_b := x_b.keep hb1; replace x_d := x_d.keep hb1; replace hT := hT.keep hb1; replace zx := zx.keep hb1; replace zy := zy.keep hb1; replace zu := zu.keep hb1; replace zv := zv.keep hb1; replace zm := zm.keep hb1; replace hb := bthen hb hb1; clear hb1; clear q_a0 f_a0 q_a1 f_a1 q_a2 f_a2 q_a3 f_a3 q_a4 f_a4; obtain ⟨q_a0, f_a0, q_a1, f_a1, q_a2, f_a2, q_a3, f_a3, q_a4, f_a4⟩ := x_a.al; clear q_b0 f_b0 q_b1 f_b1 q_b2 f_b2 q_b3 f_b3 q_b4 f_b4; obtain ⟨q_b0, f_b0, q_b1, f_b1, q_b2, f_b2, q_b3, f_b3, q_b4, f_b4⟩ := x_b.al; clear q_d0 f_d0 q_d1 f_d1 q_d2 f_d2; obtain ⟨q_d0, f_d0, q_d1, f_d1, q_d2, f_d2⟩ := x_d.al; rw [HM3.out]))
  go_wp2
  go_ret
  first | exact ⟨rfl, hb⟩ | exact ⟨by simp, hb⟩

end Go.Proofs.YtiigacddjihokaaGreatDoor
