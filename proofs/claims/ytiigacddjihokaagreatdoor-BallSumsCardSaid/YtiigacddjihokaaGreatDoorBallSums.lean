/-
 The law BallSums, as a call.
-/
import Derived.Test.YtiigacddjihokaaGreatDoorLput
import Derived.Test.YtiigacddjihokaaGreatDoorLsumj
import Derived.Test.YtiigacddjihokaaGreatDoorLshown
namespace Go.Proofs.YtiigacddjihokaaGreatDoor
open Go.RowKit
set_option linter.unusedVariables false

set_option maxRecDepth 100000 in
set_option maxHeartbeats 64000000 in
theorem BallSums_any {b b2 b3 b4 : Bool} {A A2 A3 A4 : Option Addr} {n c n2 c2 n3 c3 n4 c4 : Nat} {q r : Int} {l0 l1 l2 l3 : List Int} {w : World} (hT : Tab w) (g0 : Rd w w.heap.size A n c l0) (g1 : Rd w w.heap.size A2 n2 c2 l1) (g2 : Rd w w.heap.size A3 n3 c3 l2) (g3 : Rd w w.heap.size A4 n4 c4 l3) :
  Calls Tryz.prog 4 #[.agg #[.bool b, .slice A n c, .bool b2, .slice A2 n2 c2, .int .i64 q], .agg #[.bool b3, .slice A3 n3 c3, .bool b4, .slice A4 n4 c4, .int .i64 r]] w fun e w' => e = .returned (.bool true) ∧ Below w.heap.size w w' := by
 go_enter Tryz.func4, Tryz.ntmps4
 go_wp2_with fail
 have x_a : Lx (w.alloc (.cells #[.bool b, .slice A n c, .bool b2, .slice A2 n2 c2, .int .i64 q] 26)) (w.heap.size) b A n c b2 A2 n2 c2 q := by have := Lx.new w b A n c b2 A2 n2 c2 q; simpa using this
 replace x_a := x_a.alloc (.cells #[.bool b3, .slice A3 n3 c3, .bool b4, .slice A4 n4 c4, .int .i64 r] 26)
 have x_b : Lx ((w.alloc (.cells #[.bool b, .slice A n c, .bool b2, .slice A2 n2 c2, .int .i64 q] 26)).alloc (.cells #[.bool b3, .slice A3 n3 c3, .bool b4, .slice A4 n4 c4, .int .i64 r] 26)) (w.heap.size + 1) b3 A3 n3 c3 b4 A4 n4 c4 r := by have := Lx.new (w.alloc (.cells #[.bool b, .slice A n c, .bool b2, .slice A2 n2 c2, .int .i64 q] 26)) b3 A3 n3 c3 b4 A4 n4 c4 r; simpa using this
 have hb : Below w.heap.size w ((w.alloc (.cells #[.bool b, .slice A n c, .bool b2, .slice A2 n2 c2, .int .i64 q] 26)).alloc (.cells #[.bool b3, .slice A3 n3 c3, .bool b4, .slice A4 n4 c4, .int .i64 r] 26)) := (Below.alloc (Below.alloc (Below.refl w.heap.size w) (by simp) (.cells #[.bool b, .slice A n c, .bool b2, .slice A2 n2 c2, .int .i64 q] 26)) (by simp) (.cells #[.bool b3, .slice A3 n3 c3, .bool b4, .slice A4 n4 c4, .int .i64 r] 26))
 generalize (w.alloc (.cells #[.bool b, .slice A n c, .bool b2, .slice A2 n2 c2, .int .i64 q] 26)).alloc (.cells #[.bool b3, .slice A3 n3 c3, .bool b4, .slice A4 n4 c4, .int .i64 r] 26) = v1 at *
 replace g0 := g0.go hb
 replace g1 := g1.go hb
 replace g2 := g2.go hb
 replace g3 := g3.go hb
 replace hT := hT.keep hb
 obtain ⟨q_a0, f_a0, q_a1, f_a1, q_a2, f_a2, q_a3, f_a3, q_a4, f_a4⟩ := x_a.al
 obtain ⟨q_b0, f_b0, q_b1, f_b1, q_b2, f_b2, q_b3, f_b3, q_b4, f_b4⟩ := x_b.al
 go_wp2_with fail
 with_reducible refine (Lshown_any hT).mono ?_
 rintro e v2 ⟨rfl, hb1⟩
 replace x_a := x_a.keep hb1
 replace x_b := x_b.keep hb1
 replace g0 := g0.go hb1
 replace g1 := g1.go hb1
 replace g2 := g2.go hb1
 replace g3 := g3.go hb1
 replace hT := hT.keep hb1
 replace hb := bthen hb hb1
 clear hb1
 clear q_a0 f_a0 q_a1 f_a1 q_a2 f_a2 q_a3 f_a3 q_a4 f_a4; obtain ⟨q_a0, f_a0, q_a1, f_a1, q_a2, f_a2, q_a3, f_a3, q_a4, f_a4⟩ := x_a.al
 clear q_b0 f_b0 q_b1 f_b1 q_b2 f_b2 q_b3 f_b3 q_b4 f_b4; obtain ⟨q_b0, f_b0, q_b1, f_b1, q_b2, f_b2, q_b3, f_b3, q_b4, f_b4⟩ := x_b.al
 go_wp2_with fail
 with_reducible refine (Lcut_at g0 g1 8 8 rfl (by omega)).mono ?_
 rintro e v3 ⟨E1, m1, k1, F1, s1, t1, rfl, p2, h2, p3, h3, hb1⟩
 replace x_a := x_a.keep hb1
 replace x_b := x_b.keep hb1
 replace g0 := g0.go hb1
 replace g1 := g1.go hb1
 replace g2 := g2.go hb1
 replace g3 := g3.go hb1
 replace hT := hT.keep hb1
 replace hb := bthen hb hb1
 clear hb1
 clear q_a0 f_a0 q_a1 f_a1 q_a2 f_a2 q_a3 f_a3 q_a4 f_a4; obtain ⟨q_a0, f_a0, q_a1, f_a1, q_a2, f_a2, q_a3, f_a3, q_a4, f_a4⟩ := x_a.al
 clear q_b0 f_b0 q_b1 f_b1 q_b2 f_b2 q_b3 f_b3 q_b4 f_b4; obtain ⟨q_b0, f_b0, q_b1, f_b1, q_b2, f_b2, q_b3, f_b3, q_b4, f_b4⟩ := x_b.al
 clear g0 g1
 go_wp2_with fail
 replace x_b := x_b.asideL (b' := b) (A' := E1) (n' := m1) (c' := k1) (p' := b2) (B' := F1) (m' := s1) (d' := t1) (e' := q) (g := w.heap.size) (by omega)
 replace g2 := g2.sputL (b' := b) (A' := E1) (n' := m1) (c' := k1) (p' := b2) (B' := F1) (m' := s1) (d' := t1) (e' := q) x_a
 replace g3 := g3.sputL (b' := b) (A' := E1) (n' := m1) (c' := k1) (p' := b2) (B' := F1) (m' := s1) (d' := t1) (e' := q) x_a
 replace hT := hT.putL (b' := b) (A' := E1) (n' := m1) (c' := k1) (p' := b2) (B' := F1) (m' := s1) (d' := t1) (e' := q) x_a
 replace p2 := p2.sputL (b' := b) (A' := E1) (n' := m1) (c' := k1) (p' := b2) (B' := F1) (m' := s1) (d' := t1) (e' := q) x_a
 replace p3 := p3.sputL (b' := b) (A' := E1) (n' := m1) (c' := k1) (p' := b2) (B' := F1) (m' := s1) (d' := t1) (e' := q) x_a
 replace hb := put_belowL (g := w.heap.size) hb (by omega) (.bool b) (.slice E1 m1 k1) (.bool b2) (.slice F1 s1 t1) (.int .i64 q)
 replace x_a := x_a.put b E1 m1 k1 b2 F1 s1 t1 q
 clear q_a0 f_a0 q_a1 f_a1 q_a2 f_a2 q_a3 f_a3 q_a4 f_a4 q_b0 f_b0 q_b1 f_b1 q_b2 f_b2 q_b3 f_b3 q_b4 f_b4
 generalize ((((v3.setCell ⟨w.heap.size, 0, none⟩ (.bool b)).setCell ⟨w.heap.size, 1, none⟩ (.slice E1 m1 k1)).setCell ⟨w.heap.size, 2, none⟩ (.bool b2)).setCell ⟨w.heap.size, 3, none⟩ (.slice F1 s1 t1)).setCell ⟨w.heap.size, 4, none⟩ (.int .i64 q) = v4 at *
 obtain ⟨q_a0, f_a0, q_a1, f_a1, q_a2, f_a2, q_a3, f_a3, q_a4, f_a4⟩ := x_a.al
 obtain ⟨q_b0, f_b0, q_b1, f_b1, q_b2, f_b2, q_b3, f_b3, q_b4, f_b4⟩ := x_b.al
 with_reducible refine (Lcut_at g2 g3 8 8 rfl (by omega)).mono ?_
 rintro e v5 ⟨E2, m2, k2, F2, s2, t2, rfl, p4, h4, p5, h5, hb1⟩
 replace x_a := x_a.keep hb1
 replace x_b := x_b.keep hb1
 replace g2 := g2.go hb1
 replace g3 := g3.go hb1
 replace hT := hT.keep hb1
 replace p2 := p2.go hb1
 replace p3 := p3.go hb1
 replace hb := bthen hb hb1
 clear hb1
 clear q_a0 f_a0 q_a1 f_a1 q_a2 f_a2 q_a3 f_a3 q_a4 f_a4; obtain ⟨q_a0, f_a0, q_a1, f_a1, q_a2, f_a2, q_a3, f_a3, q_a4, f_a4⟩ := x_a.al
 clear q_b0 f_b0 q_b1 f_b1 q_b2 f_b2 q_b3 f_b3 q_b4 f_b4; obtain ⟨q_b0, f_b0, q_b1, f_b1, q_b2, f_b2, q_b3, f_b3, q_b4, f_b4⟩ := x_b.al
 clear g2 g3
 go_wp2_with fail
 replace x_a := x_a.asideL (b' := b3) (A' := E2) (n' := m2) (c' := k2) (p' := b4) (B' := F2) (m' := s2) (d' := t2) (e' := r) (g := w.heap.size + 1) (by omega)
 replace hT := hT.putL (b' := b3) (A' := E2) (n' := m2) (c' := k2) (p' := b4) (B' := F2) (m' := s2) (d' := t2) (e' := r) x_b
 replace p2 := p2.sputL (b' := b3) (A' := E2) (n' := m2) (c' := k2) (p' := b4) (B' := F2) (m' := s2) (d' := t2) (e' := r) x_b
 replace p3 := p3.sputL (b' := b3) (A' := E2) (n' := m2) (c' := k2) (p' := b4) (B' := F2) (m' := s2) (d' := t2) (e' := r) x_b
 replace p4 := p4.sputL (b' := b3) (A' := E2) (n' := m2) (c' := k2) (p' := b4) (B' := F2) (m' := s2) (d' := t2) (e' := r) x_b
 replace p5 := p5.sputL (b' := b3) (A' := E2) (n' := m2) (c' := k2) (p' := b4) (B' := F2) (m' := s2) (d' := t2) (e' := r) x_b
 replace hb := put_belowL (g := w.heap.size + 1) hb (by omega) (.bool b3) (.slice E2 m2 k2) (.bool b4) (.slice F2 s2 t2) (.int .i64 r)
 replace x_b := x_b.put b3 E2 m2 k2 b4 F2 s2 t2 r
 clear q_a0 f_a0 q_a1 f_a1 q_a2 f_a2 q_a3 f_a3 q_a4 f_a4 q_b0 f_b0 q_b1 f_b1 q_b2 f_b2 q_b3 f_b3 q_b4 f_b4
 generalize ((((v5.setCell ⟨w.heap.size + 1, 0, none⟩ (.bool b3)).setCell ⟨w.heap.size + 1, 1, none⟩ (.slice E2 m2 k2)).setCell ⟨w.heap.size + 1, 2, none⟩ (.bool b4)).setCell ⟨w.heap.size + 1, 3, none⟩ (.slice F2 s2 t2)).setCell ⟨w.heap.size + 1, 4, none⟩ (.int .i64 r) = v6 at *
 obtain ⟨q_a0, f_a0, q_a1, f_a1, q_a2, f_a2, q_a3, f_a3, q_a4, f_a4⟩ := x_a.al
 obtain ⟨q_b0, f_b0, q_b1, f_b1, q_b2, f_b2, q_b3, f_b3, q_b4, f_b4⟩ := x_b.al
 generalize l0.take 8 = la at *
 generalize l1.take 8 = lb at *
 clear hT
 have ha : la.take 8 = la := List.take_of_length_le (by rw [p2.len]; exact h2)
 have hb8 : lb.take 8 = lb := List.take_of_length_le (by rw [p3.len]; exact h3)
 have HTA := Lib.hid ha; have HTB := Lib.hid hb8; clear ha hb8
 obtain ⟨X, zx⟩ : ∃ X, Zr v6 b E1 m1 k1 X 8 := ⟨_, _, p2, rfl, h2⟩
 obtain ⟨Y, zy⟩ : ∃ X, Zr v6 b2 F1 s1 t1 X 8 := ⟨_, _, p3, rfl, h3⟩
 clear h2 h3
 obtain ⟨U, zu⟩ : ∃ X, Zr v6 b3 E2 m2 k2 X 8 := ⟨_, _, p4, rfl, h4⟩
 clear p4 h4
 obtain ⟨V, zv⟩ : ∃ X, Zr v6 b4 F2 s2 t2 X 8 := ⟨_, _, p5, rfl, h5⟩
 clear p5 h5
 skip
 with_reducible refine (Lcut_at p2 p3 8 8 rfl (by omega)).mono ?_
 rintro e v7 ⟨E3, m3, k3, F3, s3, t3, rfl, p6, h6, p7, h7, hb1⟩
 replace x_a := x_a.keep hb1
 replace x_b := x_b.keep hb1
 replace p2 := p2.go hb1
 replace p3 := p3.go hb1
 replace zx := zx.keep hb1
 replace zy := zy.keep hb1
 replace zu := zu.keep hb1
 replace zv := zv.keep hb1
 replace hb := bthen hb hb1
 clear hb1
 clear q_a0 f_a0 q_a1 f_a1 q_a2 f_a2 q_a3 f_a3 q_a4 f_a4; obtain ⟨q_a0, f_a0, q_a1, f_a1, q_a2, f_a2, q_a3, f_a3, q_a4, f_a4⟩ := x_a.al
 clear q_b0 f_b0 q_b1 f_b1 q_b2 f_b2 q_b3 f_b3 q_b4 f_b4; obtain ⟨q_b0, f_b0, q_b1, f_b1, q_b2, f_b2, q_b3, f_b3, q_b4, f_b4⟩ := x_b.al
 rw [HTA.out] at p6; rw [HTB.out] at p7; clear h6 h7
 have y_a := (x_a.alloc (.cells #[.bool b, .slice E3 m3 k3, .bool b2, .slice F3 s3 t3, .int .i64 q] 26)); have yq_a0 := y_a.c0; have yq_a1 := y_a.c1; have yq_a2 := y_a.c2; have yq_a3 := y_a.c3; have yq_a4 := y_a.c4
 have y_b := (x_b.alloc (.cells #[.bool b, .slice E3 m3 k3, .bool b2, .slice F3 s3 t3, .int .i64 q] 26)); have yq_b0 := y_b.c0; have yq_b1 := y_b.c1; have yq_b2 := y_b.c2; have yq_b3 := y_b.c3; have yq_b4 := y_b.c4
 go_wp2_with fail
 clear y_a yq_a0 yq_a1 yq_a2 yq_a3 yq_a4 y_b yq_b0 yq_b1 yq_b2 yq_b3 yq_b4
 have hb1 := below_alloc v7 (.cells #[.bool b, .slice E3 m3 k3, .bool b2, .slice F3 s3 t3, .int .i64 q] 26)
 have l_a_o := x_a.lt
 have l_b_o := x_b.lt
 have x_o := Lx.new v7 b E3 m3 k3 b2 F3 s3 t3 q
 have e_o : w.heap.size ≤ v7.heap.size := hb.size
 clear q_a0 f_a0 q_a1 f_a1 q_a2 f_a2 q_a3 f_a3 q_a4 f_a4 q_b0 f_b0 q_b1 f_b1 q_b2 f_b2 q_b3 f_b3 q_b4 f_b4
 replace x_a := x_a.keep hb1
 replace x_b := x_b.keep hb1
 replace p2 := p2.go hb1
 replace p3 := p3.go hb1
 replace zx := zx.keep hb1
 replace zy := zy.keep hb1
 replace zu := zu.keep hb1
 replace zv := zv.keep hb1
 replace p6 := p6.go hb1
 replace p7 := p7.go hb1
 replace hb := bthen hb hb1
 clear hb1
 generalize v7.alloc (.cells #[.bool b, .slice E3 m3 k3, .bool b2, .slice F3 s3 t3, .int .i64 q] 26) = v8 at *
 obtain ⟨q_a0, f_a0, q_a1, f_a1, q_a2, f_a2, q_a3, f_a3, q_a4, f_a4⟩ := x_a.al
 obtain ⟨q_b0, f_b0, q_b1, f_b1, q_b2, f_b2, q_b3, f_b3, q_b4, f_b4⟩ := x_b.al
 obtain ⟨q_o0, f_o0, q_o1, f_o1, q_o2, f_o2, q_o3, f_o3, q_o4, f_o4⟩ := x_o.al
 clear q_o0 f_o0 q_o1 f_o1 q_o2 f_o2 q_o3 f_o3 q_o4 f_o4
 obtain ⟨R1a, R1b, R1c, R1d, hR1⟩ := RsIs.ex ((0 ≤ q ∧ q ≤ 2048 ∧ X ≤ Y) ∧ (0 ≤ r ∧ r ≤ 2048 ∧ U ≤ V) ∧ q = r) (X + U) (Y + V) (q) 1
 have HR1 := Lib.hid hR1; clear hR1
 obtain ⟨R2a, R2b, R2c, R2d, hR2⟩ := RsIs.ex ((0 ≤ q ∧ q ≤ 2048 ∧ X ≤ Y) ∧ (0 ≤ r ∧ r ≤ 2048 ∧ U ≤ V) ∧ q = r) (X - V) (Y - U) (q) 1
 have HR2 := Lib.hid hR2; clear hR2
 obtain ⟨R3a, R3b, R3c, R3d, hR3⟩ := RsIs.ex ((0 ≤ q ∧ q ≤ 2048 ∧ X ≤ Y) ∧ (0 ≤ r ∧ r ≤ 2048 ∧ U ≤ V) ∧ q = r) (mn4 (fun x y => flI (x * y) (-q)) X Y U V) (mx4 (fun x y => -flI (-(x * y)) (-q)) X Y U V) (q) 1
 have HR3 := Lib.hid hR3; clear hR3
 obtain ⟨R4a, R4b, R4c, R4d, hR4⟩ := RsIs.ex (((0 ≤ q ∧ q ≤ 2048 ∧ X ≤ Y) ∧ (0 ≤ r ∧ r ≤ 2048 ∧ U ≤ V) ∧ q = r) ∧ ¬ (U ≤ 0 ∧ 0 ≤ V)) (mn4 (fun x y => fdI (x * 2 ^ q.toNat) y) X Y U V) (mx4 (fun x y => cdI (x * 2 ^ q.toNat) y) X Y U V) (q) (dxI X Y q U V r)
 have HR4 := Lib.hid hR4; clear hR4
 skip
 with_reducible refine (HR1.out.calls (fun hc => LAdd_v zx zy zu zv hc) (fun hc => LAdd_no zx zy zu zv hc (by omega) (by omega) (by omega) (by omega))).mono ?_
 rintro e v9 ⟨Ap1, np1, cp1, Bp1, mp1, dp1, rfl, yp1, up1, hb1⟩
 replace x_a := x_a.keep hb1
 replace x_b := x_b.keep hb1
 replace x_o := x_o.keep hb1
 replace p2 := p2.go hb1
 replace p3 := p3.go hb1
 replace zx := zx.keep hb1
 replace zy := zy.keep hb1
 replace zu := zu.keep hb1
 replace zv := zv.keep hb1
 replace p6 := p6.go hb1
 replace p7 := p7.go hb1
 replace hb := bthen hb hb1
 clear hb1
 clear q_a0 f_a0 q_a1 f_a1 q_a2 f_a2 q_a3 f_a3 q_a4 f_a4; obtain ⟨q_a0, f_a0, q_a1, f_a1, q_a2, f_a2, q_a3, f_a3, q_a4, f_a4⟩ := x_a.al
 clear q_b0 f_b0 q_b1 f_b1 q_b2 f_b2 q_b3 f_b3 q_b4 f_b4; obtain ⟨q_b0, f_b0, q_b1, f_b1, q_b2, f_b2, q_b3, f_b3, q_b4, f_b4⟩ := x_b.al
 have y_a := (x_a.alloc (.cells #[.bool (ngB R1a), .slice Ap1 np1 cp1, .bool (ngB R1b), .slice Bp1 mp1 dp1, .int .i64 R1c] 26)); have yq_a0 := y_a.c0; have yq_a1 := y_a.c1; have yq_a2 := y_a.c2; have yq_a3 := y_a.c3; have yq_a4 := y_a.c4
 have y_b := (x_b.alloc (.cells #[.bool (ngB R1a), .slice Ap1 np1 cp1, .bool (ngB R1b), .slice Bp1 mp1 dp1, .int .i64 R1c] 26)); have yq_b0 := y_b.c0; have yq_b1 := y_b.c1; have yq_b2 := y_b.c2; have yq_b3 := y_b.c3; have yq_b4 := y_b.c4
 go_wp2_with fail
 clear y_a yq_a0 yq_a1 yq_a2 yq_a3 yq_a4 y_b yq_b0 yq_b1 yq_b2 yq_b3 yq_b4
 have hb1 := below_alloc v9 (.cells #[.bool (ngB R1a), .slice Ap1 np1 cp1, .bool (ngB R1b), .slice Bp1 mp1 dp1, .int .i64 R1c] 26)
 have l_a_x := x_a.lt
 have l_b_x := x_b.lt
 have l_o_x := x_o.lt
 have x_x := Lx.new v9 (ngB R1a) Ap1 np1 cp1 (ngB R1b) Bp1 mp1 dp1 R1c
 have e_x : w.heap.size ≤ v9.heap.size := hb.size
 clear q_a0 f_a0 q_a1 f_a1 q_a2 f_a2 q_a3 f_a3 q_a4 f_a4 q_b0 f_b0 q_b1 f_b1 q_b2 f_b2 q_b3 f_b3 q_b4 f_b4
 replace x_a := x_a.keep hb1
 replace x_b := x_b.keep hb1
 replace x_o := x_o.keep hb1
 replace p2 := p2.go hb1
 replace p3 := p3.go hb1
 replace zx := zx.keep hb1
 replace zy := zy.keep hb1
 replace zu := zu.keep hb1
 replace zv := zv.keep hb1
 replace p6 := p6.go hb1
 replace p7 := p7.go hb1
 replace yp1 := yp1.keep hb1
 replace up1 := up1.keep hb1
 replace hb := bthen hb hb1
 clear hb1
 generalize v9.alloc (.cells #[.bool (ngB R1a), .slice Ap1 np1 cp1, .bool (ngB R1b), .slice Bp1 mp1 dp1, .int .i64 R1c] 26) = v10 at *
 obtain ⟨q_a0, f_a0, q_a1, f_a1, q_a2, f_a2, q_a3, f_a3, q_a4, f_a4⟩ := x_a.al
 obtain ⟨q_b0, f_b0, q_b1, f_b1, q_b2, f_b2, q_b3, f_b3, q_b4, f_b4⟩ := x_b.al
 obtain ⟨q_x0, f_x0, q_x1, f_x1, q_x2, f_x2, q_x3, f_x3, q_x4, f_x4⟩ := x_x.al
 skip
 with_reducible refine (HR1.out.calls (fun hc => RAdd_v zx zy zu zv hc) (fun hc => RAdd_no zx zy zu zv hc (Nat.le_refl _) (Nat.le_refl _) (Nat.le_refl _) (Nat.le_refl _))).mono ?_
 rintro e v11 ⟨Ar1, nr1, cr1, Br1, mr1, dr1, rfl, yr1, ur1, hb1⟩
 replace x_a := x_a.keep hb1
 replace x_b := x_b.keep hb1
 replace x_o := x_o.keep hb1
 replace x_x := x_x.keep hb1
 replace p2 := p2.go hb1
 replace p3 := p3.go hb1
 replace zx := zx.keep hb1
 replace zy := zy.keep hb1
 replace zu := zu.keep hb1
 replace zv := zv.keep hb1
 replace p6 := p6.go hb1
 replace p7 := p7.go hb1
 replace yp1 := yp1.keep hb1
 replace up1 := up1.keep hb1
 replace hb := bthen hb hb1
 clear hb1
 clear q_a0 f_a0 q_a1 f_a1 q_a2 f_a2 q_a3 f_a3 q_a4 f_a4; obtain ⟨q_a0, f_a0, q_a1, f_a1, q_a2, f_a2, q_a3, f_a3, q_a4, f_a4⟩ := x_a.al
 clear q_b0 f_b0 q_b1 f_b1 q_b2 f_b2 q_b3 f_b3 q_b4 f_b4; obtain ⟨q_b0, f_b0, q_b1, f_b1, q_b2, f_b2, q_b3, f_b3, q_b4, f_b4⟩ := x_b.al
 clear q_x0 f_x0 q_x1 f_x1 q_x2 f_x2 q_x3 f_x3 q_x4 f_x4; obtain ⟨q_x0, f_x0, q_x1, f_x1, q_x2, f_x2, q_x3, f_x3, q_x4, f_x4⟩ := x_x.al
 have y_a := (x_a.alloc (.cells #[.bool (ngB R1a), .slice Ar1 nr1 cr1, .bool (ngB R1b), .slice Br1 mr1 dr1, .int .i64 R1c] 26)); have yq_a0 := y_a.c0; have yq_a1 := y_a.c1; have yq_a2 := y_a.c2; have yq_a3 := y_a.c3; have yq_a4 := y_a.c4
 have y_b := (x_b.alloc (.cells #[.bool (ngB R1a), .slice Ar1 nr1 cr1, .bool (ngB R1b), .slice Br1 mr1 dr1, .int .i64 R1c] 26)); have yq_b0 := y_b.c0; have yq_b1 := y_b.c1; have yq_b2 := y_b.c2; have yq_b3 := y_b.c3; have yq_b4 := y_b.c4
 have y_x := (x_x.alloc (.cells #[.bool (ngB R1a), .slice Ar1 nr1 cr1, .bool (ngB R1b), .slice Br1 mr1 dr1, .int .i64 R1c] 26)); have yq_x0 := y_x.c0; have yq_x1 := y_x.c1; have yq_x2 := y_x.c2; have yq_x3 := y_x.c3; have yq_x4 := y_x.c4
 go_wp2_with fail
 clear y_a yq_a0 yq_a1 yq_a2 yq_a3 yq_a4 y_b yq_b0 yq_b1 yq_b2 yq_b3 yq_b4 y_x yq_x0 yq_x1 yq_x2 yq_x3 yq_x4
 have hb1 := below_alloc v11 (.cells #[.bool (ngB R1a), .slice Ar1 nr1 cr1, .bool (ngB R1b), .slice Br1 mr1 dr1, .int .i64 R1c] 26)
 have l_a_y := x_a.lt
 have l_b_y := x_b.lt
 have l_o_y := x_o.lt
 have l_x_y := x_x.lt
 have x_y := Lx.new v11 (ngB R1a) Ar1 nr1 cr1 (ngB R1b) Br1 mr1 dr1 R1c
 have e_y : w.heap.size ≤ v11.heap.size := hb.size
 clear q_a0 f_a0 q_a1 f_a1 q_a2 f_a2 q_a3 f_a3 q_a4 f_a4 q_b0 f_b0 q_b1 f_b1 q_b2 f_b2 q_b3 f_b3 q_b4 f_b4 q_x0 f_x0 q_x1 f_x1 q_x2 f_x2 q_x3 f_x3 q_x4 f_x4
 replace x_a := x_a.keep hb1
 replace x_b := x_b.keep hb1
 replace x_o := x_o.keep hb1
 replace x_x := x_x.keep hb1
 replace p2 := p2.go hb1
 replace p3 := p3.go hb1
 replace zx := zx.keep hb1
 replace zy := zy.keep hb1
 replace zu := zu.keep hb1
 replace zv := zv.keep hb1
 replace p6 := p6.go hb1
 replace p7 := p7.go hb1
 replace yp1 := yp1.keep hb1
 replace up1 := up1.keep hb1
 replace yr1 := yr1.keep hb1
 replace ur1 := ur1.keep hb1
 replace hb := bthen hb hb1
 clear hb1
 generalize v11.alloc (.cells #[.bool (ngB R1a), .slice Ar1 nr1 cr1, .bool (ngB R1b), .slice Br1 mr1 dr1, .int .i64 R1c] 26) = v12 at *
 obtain ⟨q_a0, f_a0, q_a1, f_a1, q_a2, f_a2, q_a3, f_a3, q_a4, f_a4⟩ := x_a.al
 obtain ⟨q_b0, f_b0, q_b1, f_b1, q_b2, f_b2, q_b3, f_b3, q_b4, f_b4⟩ := x_b.al
 obtain ⟨q_x0, f_x0, q_x1, f_x1, q_x2, f_x2, q_x3, f_x3, q_x4, f_x4⟩ := x_x.al
 obtain ⟨q_y0, f_y0, q_y1, f_y1, q_y2, f_y2, q_y3, f_y3, q_y4, f_y4⟩ := x_y.al
 skip
 with_reducible refine (Leq_any yp1 up1 yr1 ur1).mono ?_
 rintro e v13 ⟨rfl, hb1⟩
 replace x_a := x_a.keep hb1
 replace x_b := x_b.keep hb1
 replace x_o := x_o.keep hb1
 replace x_x := x_x.keep hb1
 replace x_y := x_y.keep hb1
 replace p2 := p2.go hb1
 replace p3 := p3.go hb1
 replace zx := zx.keep hb1
 replace zy := zy.keep hb1
 replace zu := zu.keep hb1
 replace zv := zv.keep hb1
 replace p6 := p6.go hb1
 replace p7 := p7.go hb1
 replace yp1 := yp1.keep hb1
 replace up1 := up1.keep hb1
 replace yr1 := yr1.keep hb1
 replace ur1 := ur1.keep hb1
 replace hb := bthen hb hb1
 clear hb1
 clear q_a0 f_a0 q_a1 f_a1 q_a2 f_a2 q_a3 f_a3 q_a4 f_a4; obtain ⟨q_a0, f_a0, q_a1, f_a1, q_a2, f_a2, q_a3, f_a3, q_a4, f_a4⟩ := x_a.al
 clear q_b0 f_b0 q_b1 f_b1 q_b2 f_b2 q_b3 f_b3 q_b4 f_b4; obtain ⟨q_b0, f_b0, q_b1, f_b1, q_b2, f_b2, q_b3, f_b3, q_b4, f_b4⟩ := x_b.al
 clear q_x0 f_x0 q_x1 f_x1 q_x2 f_x2 q_x3 f_x3 q_x4 f_x4; obtain ⟨q_x0, f_x0, q_x1, f_x1, q_x2, f_x2, q_x3, f_x3, q_x4, f_x4⟩ := x_x.al
 clear q_y0 f_y0 q_y1 f_y1 q_y2 f_y2 q_y3 f_y3 q_y4 f_y4; obtain ⟨q_y0, f_y0, q_y1, f_y1, q_y2, f_y2, q_y3, f_y3, q_y4, f_y4⟩ := x_y.al
 go_wp2_with fail
 clear yp1 up1 yr1 ur1
 skip
 with_reducible refine (HR2.out.calls (fun hc => LSub_v zx zy zu zv hc) (fun hc => LSub_no zx zy zu zv hc (by omega) (by omega) (by omega) (by omega))).mono ?_
 rintro e v14 ⟨Ap2, np2, cp2, Bp2, mp2, dp2, rfl, yp2, up2, hb1⟩
 replace x_a := x_a.keep hb1
 replace x_b := x_b.keep hb1
 replace x_o := x_o.keep hb1
 replace x_x := x_x.keep hb1
 replace x_y := x_y.keep hb1
 replace p2 := p2.go hb1
 replace p3 := p3.go hb1
 replace zx := zx.keep hb1
 replace zy := zy.keep hb1
 replace zu := zu.keep hb1
 replace zv := zv.keep hb1
 replace p6 := p6.go hb1
 replace p7 := p7.go hb1
 replace hb := bthen hb hb1
 clear hb1
 clear q_a0 f_a0 q_a1 f_a1 q_a2 f_a2 q_a3 f_a3 q_a4 f_a4; obtain ⟨q_a0, f_a0, q_a1, f_a1, q_a2, f_a2, q_a3, f_a3, q_a4, f_a4⟩ := x_a.al
 clear q_b0 f_b0 q_b1 f_b1 q_b2 f_b2 q_b3 f_b3 q_b4 f_b4; obtain ⟨q_b0, f_b0, q_b1, f_b1, q_b2, f_b2, q_b3, f_b3, q_b4, f_b4⟩ := x_b.al
 clear q_x0 f_x0 q_x1 f_x1 q_x2 f_x2 q_x3 f_x3 q_x4 f_x4; obtain ⟨q_x0, f_x0, q_x1, f_x1, q_x2, f_x2, q_x3, f_x3, q_x4, f_x4⟩ := x_x.al
 clear q_y0 f_y0 q_y1 f_y1 q_y2 f_y2 q_y3 f_y3 q_y4 f_y4; obtain ⟨q_y0, f_y0, q_y1, f_y1, q_y2, f_y2, q_y3, f_y3, q_y4, f_y4⟩ := x_y.al
 go_wp2_with fail
 replace x_a := x_a.asideL (b' := (ngB R2a)) (A' := Ap2) (n' := np2) (c' := cp2) (p' := (ngB R2b)) (B' := Bp2) (m' := mp2) (d' := dp2) (e' := R2c) (g := v9.heap.size) (by omega)
 replace x_b := x_b.asideL (b' := (ngB R2a)) (A' := Ap2) (n' := np2) (c' := cp2) (p' := (ngB R2b)) (B' := Bp2) (m' := mp2) (d' := dp2) (e' := R2c) (g := v9.heap.size) (by omega)
 replace x_o := x_o.asideL (b' := (ngB R2a)) (A' := Ap2) (n' := np2) (c' := cp2) (p' := (ngB R2b)) (B' := Bp2) (m' := mp2) (d' := dp2) (e' := R2c) (g := v9.heap.size) (by omega)
 replace x_y := x_y.asideL (b' := (ngB R2a)) (A' := Ap2) (n' := np2) (c' := cp2) (p' := (ngB R2b)) (B' := Bp2) (m' := mp2) (d' := dp2) (e' := R2c) (g := v9.heap.size) (by omega)
 replace p2 := p2.sputL (b' := (ngB R2a)) (A' := Ap2) (n' := np2) (c' := cp2) (p' := (ngB R2b)) (B' := Bp2) (m' := mp2) (d' := dp2) (e' := R2c) x_x
 replace p3 := p3.sputL (b' := (ngB R2a)) (A' := Ap2) (n' := np2) (c' := cp2) (p' := (ngB R2b)) (B' := Bp2) (m' := mp2) (d' := dp2) (e' := R2c) x_x
 replace zx := zx.putL (b' := (ngB R2a)) (A' := Ap2) (n' := np2) (c' := cp2) (p' := (ngB R2b)) (B' := Bp2) (m' := mp2) (d' := dp2) (e' := R2c) x_x
 replace zy := zy.putL (b' := (ngB R2a)) (A' := Ap2) (n' := np2) (c' := cp2) (p' := (ngB R2b)) (B' := Bp2) (m' := mp2) (d' := dp2) (e' := R2c) x_x
 replace zu := zu.putL (b' := (ngB R2a)) (A' := Ap2) (n' := np2) (c' := cp2) (p' := (ngB R2b)) (B' := Bp2) (m' := mp2) (d' := dp2) (e' := R2c) x_x
 replace zv := zv.putL (b' := (ngB R2a)) (A' := Ap2) (n' := np2) (c' := cp2) (p' := (ngB R2b)) (B' := Bp2) (m' := mp2) (d' := dp2) (e' := R2c) x_x
 replace p6 := p6.sputL (b' := (ngB R2a)) (A' := Ap2) (n' := np2) (c' := cp2) (p' := (ngB R2b)) (B' := Bp2) (m' := mp2) (d' := dp2) (e' := R2c) x_x
 replace p7 := p7.sputL (b' := (ngB R2a)) (A' := Ap2) (n' := np2) (c' := cp2) (p' := (ngB R2b)) (B' := Bp2) (m' := mp2) (d' := dp2) (e' := R2c) x_x
 replace yp2 := yp2.putL (b' := (ngB R2a)) (A' := Ap2) (n' := np2) (c' := cp2) (p' := (ngB R2b)) (B' := Bp2) (m' := mp2) (d' := dp2) (e' := R2c) x_x
 replace up2 := up2.putL (b' := (ngB R2a)) (A' := Ap2) (n' := np2) (c' := cp2) (p' := (ngB R2b)) (B' := Bp2) (m' := mp2) (d' := dp2) (e' := R2c) x_x
 replace hb := put_belowL (g := v9.heap.size) hb (by omega) (.bool (ngB R2a)) (.slice Ap2 np2 cp2) (.bool (ngB R2b)) (.slice Bp2 mp2 dp2) (.int .i64 R2c)
 replace x_x := x_x.put (ngB R2a) Ap2 np2 cp2 (ngB R2b) Bp2 mp2 dp2 R2c
 clear q_a0 f_a0 q_a1 f_a1 q_a2 f_a2 q_a3 f_a3 q_a4 f_a4 q_b0 f_b0 q_b1 f_b1 q_b2 f_b2 q_b3 f_b3 q_b4 f_b4 q_x0 f_x0 q_x1 f_x1 q_x2 f_x2 q_x3 f_x3 q_x4 f_x4 q_y0 f_y0 q_y1 f_y1 q_y2 f_y2 q_y3 f_y3 q_y4 f_y4
 generalize ((((v14.setCell ⟨v9.heap.size, 0, none⟩ (.bool (ngB R2a))).setCell ⟨v9.heap.size, 1, none⟩ (.slice Ap2 np2 cp2)).setCell ⟨v9.heap.size, 2, none⟩ (.bool (ngB R2b))).setCell ⟨v9.heap.size, 3, none⟩ (.slice Bp2 mp2 dp2)).setCell ⟨v9.heap.size, 4, none⟩ (.int .i64 R2c) = v15 at *
 obtain ⟨q_a0, f_a0, q_a1, f_a1, q_a2, f_a2, q_a3, f_a3, q_a4, f_a4⟩ := x_a.al
 obtain ⟨q_b0, f_b0, q_b1, f_b1, q_b2, f_b2, q_b3, f_b3, q_b4, f_b4⟩ := x_b.al
 obtain ⟨q_x0, f_x0, q_x1, f_x1, q_x2, f_x2, q_x3, f_x3, q_x4, f_x4⟩ := x_x.al
 obtain ⟨q_y0, f_y0, q_y1, f_y1, q_y2, f_y2, q_y3, f_y3, q_y4, f_y4⟩ := x_y.al
 with_reducible refine (HR2.out.calls (fun hc => RSub_v zx zy zu zv hc) (fun hc => RSub_no zx zy zu zv hc (Nat.le_refl _) (Nat.le_refl _) (Nat.le_refl _) (Nat.le_refl _))).mono ?_
 rintro e v16 ⟨Ar2, nr2, cr2, Br2, mr2, dr2, rfl, yr2, ur2, hb1⟩
 replace x_a := x_a.keep hb1
 replace x_b := x_b.keep hb1
 replace x_o := x_o.keep hb1
 replace x_x := x_x.keep hb1
 replace x_y := x_y.keep hb1
 replace p2 := p2.go hb1
 replace p3 := p3.go hb1
 replace zx := zx.keep hb1
 replace zy := zy.keep hb1
 replace zu := zu.keep hb1
 replace zv := zv.keep hb1
 replace p6 := p6.go hb1
 replace p7 := p7.go hb1
 replace yp2 := yp2.keep hb1
 replace up2 := up2.keep hb1
 replace hb := bthen hb hb1
 clear hb1
 clear q_a0 f_a0 q_a1 f_a1 q_a2 f_a2 q_a3 f_a3 q_a4 f_a4; obtain ⟨q_a0, f_a0, q_a1, f_a1, q_a2, f_a2, q_a3, f_a3, q_a4, f_a4⟩ := x_a.al
 clear q_b0 f_b0 q_b1 f_b1 q_b2 f_b2 q_b3 f_b3 q_b4 f_b4; obtain ⟨q_b0, f_b0, q_b1, f_b1, q_b2, f_b2, q_b3, f_b3, q_b4, f_b4⟩ := x_b.al
 clear q_x0 f_x0 q_x1 f_x1 q_x2 f_x2 q_x3 f_x3 q_x4 f_x4; obtain ⟨q_x0, f_x0, q_x1, f_x1, q_x2, f_x2, q_x3, f_x3, q_x4, f_x4⟩ := x_x.al
 clear q_y0 f_y0 q_y1 f_y1 q_y2 f_y2 q_y3 f_y3 q_y4 f_y4; obtain ⟨q_y0, f_y0, q_y1, f_y1, q_y2, f_y2, q_y3, f_y3, q_y4, f_y4⟩ := x_y.al
 go_wp2_with fail
 replace x_a := x_a.asideL (b' := (ngB R2a)) (A' := Ar2) (n' := nr2) (c' := cr2) (p' := (ngB R2b)) (B' := Br2) (m' := mr2) (d' := dr2) (e' := R2c) (g := v11.heap.size) (by omega)
 replace x_b := x_b.asideL (b' := (ngB R2a)) (A' := Ar2) (n' := nr2) (c' := cr2) (p' := (ngB R2b)) (B' := Br2) (m' := mr2) (d' := dr2) (e' := R2c) (g := v11.heap.size) (by omega)
 replace x_o := x_o.asideL (b' := (ngB R2a)) (A' := Ar2) (n' := nr2) (c' := cr2) (p' := (ngB R2b)) (B' := Br2) (m' := mr2) (d' := dr2) (e' := R2c) (g := v11.heap.size) (by omega)
 replace x_x := x_x.asideL (b' := (ngB R2a)) (A' := Ar2) (n' := nr2) (c' := cr2) (p' := (ngB R2b)) (B' := Br2) (m' := mr2) (d' := dr2) (e' := R2c) (g := v11.heap.size) (by omega)
 replace p2 := p2.sputL (b' := (ngB R2a)) (A' := Ar2) (n' := nr2) (c' := cr2) (p' := (ngB R2b)) (B' := Br2) (m' := mr2) (d' := dr2) (e' := R2c) x_y
 replace p3 := p3.sputL (b' := (ngB R2a)) (A' := Ar2) (n' := nr2) (c' := cr2) (p' := (ngB R2b)) (B' := Br2) (m' := mr2) (d' := dr2) (e' := R2c) x_y
 replace zx := zx.putL (b' := (ngB R2a)) (A' := Ar2) (n' := nr2) (c' := cr2) (p' := (ngB R2b)) (B' := Br2) (m' := mr2) (d' := dr2) (e' := R2c) x_y
 replace zy := zy.putL (b' := (ngB R2a)) (A' := Ar2) (n' := nr2) (c' := cr2) (p' := (ngB R2b)) (B' := Br2) (m' := mr2) (d' := dr2) (e' := R2c) x_y
 replace zu := zu.putL (b' := (ngB R2a)) (A' := Ar2) (n' := nr2) (c' := cr2) (p' := (ngB R2b)) (B' := Br2) (m' := mr2) (d' := dr2) (e' := R2c) x_y
 replace zv := zv.putL (b' := (ngB R2a)) (A' := Ar2) (n' := nr2) (c' := cr2) (p' := (ngB R2b)) (B' := Br2) (m' := mr2) (d' := dr2) (e' := R2c) x_y
 replace p6 := p6.sputL (b' := (ngB R2a)) (A' := Ar2) (n' := nr2) (c' := cr2) (p' := (ngB R2b)) (B' := Br2) (m' := mr2) (d' := dr2) (e' := R2c) x_y
 replace p7 := p7.sputL (b' := (ngB R2a)) (A' := Ar2) (n' := nr2) (c' := cr2) (p' := (ngB R2b)) (B' := Br2) (m' := mr2) (d' := dr2) (e' := R2c) x_y
 replace yp2 := yp2.putL (b' := (ngB R2a)) (A' := Ar2) (n' := nr2) (c' := cr2) (p' := (ngB R2b)) (B' := Br2) (m' := mr2) (d' := dr2) (e' := R2c) x_y
 replace up2 := up2.putL (b' := (ngB R2a)) (A' := Ar2) (n' := nr2) (c' := cr2) (p' := (ngB R2b)) (B' := Br2) (m' := mr2) (d' := dr2) (e' := R2c) x_y
 replace yr2 := yr2.putL (b' := (ngB R2a)) (A' := Ar2) (n' := nr2) (c' := cr2) (p' := (ngB R2b)) (B' := Br2) (m' := mr2) (d' := dr2) (e' := R2c) x_y
 replace ur2 := ur2.putL (b' := (ngB R2a)) (A' := Ar2) (n' := nr2) (c' := cr2) (p' := (ngB R2b)) (B' := Br2) (m' := mr2) (d' := dr2) (e' := R2c) x_y
 replace hb := put_belowL (g := v11.heap.size) hb (by omega) (.bool (ngB R2a)) (.slice Ar2 nr2 cr2) (.bool (ngB R2b)) (.slice Br2 mr2 dr2) (.int .i64 R2c)
 replace x_y := x_y.put (ngB R2a) Ar2 nr2 cr2 (ngB R2b) Br2 mr2 dr2 R2c
 clear q_a0 f_a0 q_a1 f_a1 q_a2 f_a2 q_a3 f_a3 q_a4 f_a4 q_b0 f_b0 q_b1 f_b1 q_b2 f_b2 q_b3 f_b3 q_b4 f_b4 q_x0 f_x0 q_x1 f_x1 q_x2 f_x2 q_x3 f_x3 q_x4 f_x4 q_y0 f_y0 q_y1 f_y1 q_y2 f_y2 q_y3 f_y3 q_y4 f_y4
 generalize ((((v16.setCell ⟨v11.heap.size, 0, none⟩ (.bool (ngB R2a))).setCell ⟨v11.heap.size, 1, none⟩ (.slice Ar2 nr2 cr2)).setCell ⟨v11.heap.size, 2, none⟩ (.bool (ngB R2b))).setCell ⟨v11.heap.size, 3, none⟩ (.slice Br2 mr2 dr2)).setCell ⟨v11.heap.size, 4, none⟩ (.int .i64 R2c) = v17 at *
 obtain ⟨q_a0, f_a0, q_a1, f_a1, q_a2, f_a2, q_a3, f_a3, q_a4, f_a4⟩ := x_a.al
 obtain ⟨q_b0, f_b0, q_b1, f_b1, q_b2, f_b2, q_b3, f_b3, q_b4, f_b4⟩ := x_b.al
 obtain ⟨q_x0, f_x0, q_x1, f_x1, q_x2, f_x2, q_x3, f_x3, q_x4, f_x4⟩ := x_x.al
 obtain ⟨q_y0, f_y0, q_y1, f_y1, q_y2, f_y2, q_y3, f_y3, q_y4, f_y4⟩ := x_y.al
 with_reducible refine (Leq_any yp2 up2 yr2 ur2).mono ?_
 rintro e v18 ⟨rfl, hb1⟩
 replace x_a := x_a.keep hb1
 replace x_b := x_b.keep hb1
 replace x_o := x_o.keep hb1
 replace x_x := x_x.keep hb1
 replace x_y := x_y.keep hb1
 replace p2 := p2.go hb1
 replace p3 := p3.go hb1
 replace zx := zx.keep hb1
 replace zy := zy.keep hb1
 replace zu := zu.keep hb1
 replace zv := zv.keep hb1
 replace p6 := p6.go hb1
 replace p7 := p7.go hb1
 replace yp2 := yp2.keep hb1
 replace up2 := up2.keep hb1
 replace yr2 := yr2.keep hb1
 replace ur2 := ur2.keep hb1
 replace hb := bthen hb hb1
 clear hb1
 clear q_a0 f_a0 q_a1 f_a1 q_a2 f_a2 q_a3 f_a3 q_a4 f_a4; obtain ⟨q_a0, f_a0, q_a1, f_a1, q_a2, f_a2, q_a3, f_a3, q_a4, f_a4⟩ := x_a.al
 clear q_b0 f_b0 q_b1 f_b1 q_b2 f_b2 q_b3 f_b3 q_b4 f_b4; obtain ⟨q_b0, f_b0, q_b1, f_b1, q_b2, f_b2, q_b3, f_b3, q_b4, f_b4⟩ := x_b.al
 clear q_x0 f_x0 q_x1 f_x1 q_x2 f_x2 q_x3 f_x3 q_x4 f_x4; obtain ⟨q_x0, f_x0, q_x1, f_x1, q_x2, f_x2, q_x3, f_x3, q_x4, f_x4⟩ := x_x.al
 clear q_y0 f_y0 q_y1 f_y1 q_y2 f_y2 q_y3 f_y3 q_y4 f_y4; obtain ⟨q_y0, f_y0, q_y1, f_y1, q_y2, f_y2, q_y3, f_y3, q_y4, f_y4⟩ := x_y.al
 go_wp2_with fail
 clear yp2 up2 yr2 ur2
 skip
 with_reducible refine (HR3.out.calls (fun hc => LMul_v zx zy zu zv hc) (fun hc => LMul_no zx zy zu zv hc (by omega) (by omega) (by omega) (by omega))).mono ?_
 rintro e v19 ⟨Ap3, np3, cp3, Bp3, mp3, dp3, rfl, yp3, up3, hb1⟩
 replace x_a := x_a.keep hb1
 replace x_b := x_b.keep hb1
 replace x_o := x_o.keep hb1
 replace x_x := x_x.keep hb1
 replace x_y := x_y.keep hb1
 replace p2 := p2.go hb1
 replace p3 := p3.go hb1
 replace zx := zx.keep hb1
 replace zy := zy.keep hb1
 replace zu := zu.keep hb1
 replace zv := zv.keep hb1
 replace p6 := p6.go hb1
 replace p7 := p7.go hb1
 replace hb := bthen hb hb1
 clear hb1
 clear q_a0 f_a0 q_a1 f_a1 q_a2 f_a2 q_a3 f_a3 q_a4 f_a4; obtain ⟨q_a0, f_a0, q_a1, f_a1, q_a2, f_a2, q_a3, f_a3, q_a4, f_a4⟩ := x_a.al
 clear q_b0 f_b0 q_b1 f_b1 q_b2 f_b2 q_b3 f_b3 q_b4 f_b4; obtain ⟨q_b0, f_b0, q_b1, f_b1, q_b2, f_b2, q_b3, f_b3, q_b4, f_b4⟩ := x_b.al
 clear q_x0 f_x0 q_x1 f_x1 q_x2 f_x2 q_x3 f_x3 q_x4 f_x4; obtain ⟨q_x0, f_x0, q_x1, f_x1, q_x2, f_x2, q_x3, f_x3, q_x4, f_x4⟩ := x_x.al
 clear q_y0 f_y0 q_y1 f_y1 q_y2 f_y2 q_y3 f_y3 q_y4 f_y4; obtain ⟨q_y0, f_y0, q_y1, f_y1, q_y2, f_y2, q_y3, f_y3, q_y4, f_y4⟩ := x_y.al
 go_wp2_with fail
 replace x_a := x_a.asideL (b' := (ngB R3a)) (A' := Ap3) (n' := np3) (c' := cp3) (p' := (ngB R3b)) (B' := Bp3) (m' := mp3) (d' := dp3) (e' := R3c) (g := v9.heap.size) (by omega)
 replace x_b := x_b.asideL (b' := (ngB R3a)) (A' := Ap3) (n' := np3) (c' := cp3) (p' := (ngB R3b)) (B' := Bp3) (m' := mp3) (d' := dp3) (e' := R3c) (g := v9.heap.size) (by omega)
 replace x_o := x_o.asideL (b' := (ngB R3a)) (A' := Ap3) (n' := np3) (c' := cp3) (p' := (ngB R3b)) (B' := Bp3) (m' := mp3) (d' := dp3) (e' := R3c) (g := v9.heap.size) (by omega)
 replace x_y := x_y.asideL (b' := (ngB R3a)) (A' := Ap3) (n' := np3) (c' := cp3) (p' := (ngB R3b)) (B' := Bp3) (m' := mp3) (d' := dp3) (e' := R3c) (g := v9.heap.size) (by omega)
 replace p2 := p2.sputL (b' := (ngB R3a)) (A' := Ap3) (n' := np3) (c' := cp3) (p' := (ngB R3b)) (B' := Bp3) (m' := mp3) (d' := dp3) (e' := R3c) x_x
 replace p3 := p3.sputL (b' := (ngB R3a)) (A' := Ap3) (n' := np3) (c' := cp3) (p' := (ngB R3b)) (B' := Bp3) (m' := mp3) (d' := dp3) (e' := R3c) x_x
 replace zx := zx.putL (b' := (ngB R3a)) (A' := Ap3) (n' := np3) (c' := cp3) (p' := (ngB R3b)) (B' := Bp3) (m' := mp3) (d' := dp3) (e' := R3c) x_x
 replace zy := zy.putL (b' := (ngB R3a)) (A' := Ap3) (n' := np3) (c' := cp3) (p' := (ngB R3b)) (B' := Bp3) (m' := mp3) (d' := dp3) (e' := R3c) x_x
 replace zu := zu.putL (b' := (ngB R3a)) (A' := Ap3) (n' := np3) (c' := cp3) (p' := (ngB R3b)) (B' := Bp3) (m' := mp3) (d' := dp3) (e' := R3c) x_x
 replace zv := zv.putL (b' := (ngB R3a)) (A' := Ap3) (n' := np3) (c' := cp3) (p' := (ngB R3b)) (B' := Bp3) (m' := mp3) (d' := dp3) (e' := R3c) x_x
 replace p6 := p6.sputL (b' := (ngB R3a)) (A' := Ap3) (n' := np3) (c' := cp3) (p' := (ngB R3b)) (B' := Bp3) (m' := mp3) (d' := dp3) (e' := R3c) x_x
 replace p7 := p7.sputL (b' := (ngB R3a)) (A' := Ap3) (n' := np3) (c' := cp3) (p' := (ngB R3b)) (B' := Bp3) (m' := mp3) (d' := dp3) (e' := R3c) x_x
 replace yp3 := yp3.putL (b' := (ngB R3a)) (A' := Ap3) (n' := np3) (c' := cp3) (p' := (ngB R3b)) (B' := Bp3) (m' := mp3) (d' := dp3) (e' := R3c) x_x
 replace up3 := up3.putL (b' := (ngB R3a)) (A' := Ap3) (n' := np3) (c' := cp3) (p' := (ngB R3b)) (B' := Bp3) (m' := mp3) (d' := dp3) (e' := R3c) x_x
 replace hb := put_belowL (g := v9.heap.size) hb (by omega) (.bool (ngB R3a)) (.slice Ap3 np3 cp3) (.bool (ngB R3b)) (.slice Bp3 mp3 dp3) (.int .i64 R3c)
 replace x_x := x_x.put (ngB R3a) Ap3 np3 cp3 (ngB R3b) Bp3 mp3 dp3 R3c
 clear q_a0 f_a0 q_a1 f_a1 q_a2 f_a2 q_a3 f_a3 q_a4 f_a4 q_b0 f_b0 q_b1 f_b1 q_b2 f_b2 q_b3 f_b3 q_b4 f_b4 q_x0 f_x0 q_x1 f_x1 q_x2 f_x2 q_x3 f_x3 q_x4 f_x4 q_y0 f_y0 q_y1 f_y1 q_y2 f_y2 q_y3 f_y3 q_y4 f_y4
 generalize ((((v19.setCell ⟨v9.heap.size, 0, none⟩ (.bool (ngB R3a))).setCell ⟨v9.heap.size, 1, none⟩ (.slice Ap3 np3 cp3)).setCell ⟨v9.heap.size, 2, none⟩ (.bool (ngB R3b))).setCell ⟨v9.heap.size, 3, none⟩ (.slice Bp3 mp3 dp3)).setCell ⟨v9.heap.size, 4, none⟩ (.int .i64 R3c) = v20 at *
 obtain ⟨q_a0, f_a0, q_a1, f_a1, q_a2, f_a2, q_a3, f_a3, q_a4, f_a4⟩ := x_a.al
 obtain ⟨q_b0, f_b0, q_b1, f_b1, q_b2, f_b2, q_b3, f_b3, q_b4, f_b4⟩ := x_b.al
 obtain ⟨q_x0, f_x0, q_x1, f_x1, q_x2, f_x2, q_x3, f_x3, q_x4, f_x4⟩ := x_x.al
 obtain ⟨q_y0, f_y0, q_y1, f_y1, q_y2, f_y2, q_y3, f_y3, q_y4, f_y4⟩ := x_y.al
 with_reducible refine (HR3.out.calls (fun hc => RMul_v zx zy zu zv hc) (fun hc => RMul_no zx zy zu zv hc (Nat.le_refl _) (Nat.le_refl _) (Nat.le_refl _) (Nat.le_refl _))).mono ?_
 rintro e v21 ⟨Ar3, nr3, cr3, Br3, mr3, dr3, rfl, yr3, ur3, hb1⟩
 replace x_a := x_a.keep hb1
 replace x_b := x_b.keep hb1
 replace x_o := x_o.keep hb1
 replace x_x := x_x.keep hb1
 replace x_y := x_y.keep hb1
 replace p2 := p2.go hb1
 replace p3 := p3.go hb1
 replace zx := zx.keep hb1
 replace zy := zy.keep hb1
 replace zu := zu.keep hb1
 replace zv := zv.keep hb1
 replace p6 := p6.go hb1
 replace p7 := p7.go hb1
 replace yp3 := yp3.keep hb1
 replace up3 := up3.keep hb1
 replace hb := bthen hb hb1
 clear hb1
 clear q_a0 f_a0 q_a1 f_a1 q_a2 f_a2 q_a3 f_a3 q_a4 f_a4; obtain ⟨q_a0, f_a0, q_a1, f_a1, q_a2, f_a2, q_a3, f_a3, q_a4, f_a4⟩ := x_a.al
 clear q_b0 f_b0 q_b1 f_b1 q_b2 f_b2 q_b3 f_b3 q_b4 f_b4; obtain ⟨q_b0, f_b0, q_b1, f_b1, q_b2, f_b2, q_b3, f_b3, q_b4, f_b4⟩ := x_b.al
 clear q_x0 f_x0 q_x1 f_x1 q_x2 f_x2 q_x3 f_x3 q_x4 f_x4; obtain ⟨q_x0, f_x0, q_x1, f_x1, q_x2, f_x2, q_x3, f_x3, q_x4, f_x4⟩ := x_x.al
 clear q_y0 f_y0 q_y1 f_y1 q_y2 f_y2 q_y3 f_y3 q_y4 f_y4; obtain ⟨q_y0, f_y0, q_y1, f_y1, q_y2, f_y2, q_y3, f_y3, q_y4, f_y4⟩ := x_y.al
 go_wp2_with fail
 replace x_a := x_a.asideL (b' := (ngB R3a)) (A' := Ar3) (n' := nr3) (c' := cr3) (p' := (ngB R3b)) (B' := Br3) (m' := mr3) (d' := dr3) (e' := R3c) (g := v11.heap.size) (by omega)
 replace x_b := x_b.asideL (b' := (ngB R3a)) (A' := Ar3) (n' := nr3) (c' := cr3) (p' := (ngB R3b)) (B' := Br3) (m' := mr3) (d' := dr3) (e' := R3c) (g := v11.heap.size) (by omega)
 replace x_o := x_o.asideL (b' := (ngB R3a)) (A' := Ar3) (n' := nr3) (c' := cr3) (p' := (ngB R3b)) (B' := Br3) (m' := mr3) (d' := dr3) (e' := R3c) (g := v11.heap.size) (by omega)
 replace x_x := x_x.asideL (b' := (ngB R3a)) (A' := Ar3) (n' := nr3) (c' := cr3) (p' := (ngB R3b)) (B' := Br3) (m' := mr3) (d' := dr3) (e' := R3c) (g := v11.heap.size) (by omega)
 replace p2 := p2.sputL (b' := (ngB R3a)) (A' := Ar3) (n' := nr3) (c' := cr3) (p' := (ngB R3b)) (B' := Br3) (m' := mr3) (d' := dr3) (e' := R3c) x_y
 replace p3 := p3.sputL (b' := (ngB R3a)) (A' := Ar3) (n' := nr3) (c' := cr3) (p' := (ngB R3b)) (B' := Br3) (m' := mr3) (d' := dr3) (e' := R3c) x_y
 replace zx := zx.putL (b' := (ngB R3a)) (A' := Ar3) (n' := nr3) (c' := cr3) (p' := (ngB R3b)) (B' := Br3) (m' := mr3) (d' := dr3) (e' := R3c) x_y
 replace zy := zy.putL (b' := (ngB R3a)) (A' := Ar3) (n' := nr3) (c' := cr3) (p' := (ngB R3b)) (B' := Br3) (m' := mr3) (d' := dr3) (e' := R3c) x_y
 replace zu := zu.putL (b' := (ngB R3a)) (A' := Ar3) (n' := nr3) (c' := cr3) (p' := (ngB R3b)) (B' := Br3) (m' := mr3) (d' := dr3) (e' := R3c) x_y
 replace zv := zv.putL (b' := (ngB R3a)) (A' := Ar3) (n' := nr3) (c' := cr3) (p' := (ngB R3b)) (B' := Br3) (m' := mr3) (d' := dr3) (e' := R3c) x_y
 replace p6 := p6.sputL (b' := (ngB R3a)) (A' := Ar3) (n' := nr3) (c' := cr3) (p' := (ngB R3b)) (B' := Br3) (m' := mr3) (d' := dr3) (e' := R3c) x_y
 replace p7 := p7.sputL (b' := (ngB R3a)) (A' := Ar3) (n' := nr3) (c' := cr3) (p' := (ngB R3b)) (B' := Br3) (m' := mr3) (d' := dr3) (e' := R3c) x_y
 replace yp3 := yp3.putL (b' := (ngB R3a)) (A' := Ar3) (n' := nr3) (c' := cr3) (p' := (ngB R3b)) (B' := Br3) (m' := mr3) (d' := dr3) (e' := R3c) x_y
 replace up3 := up3.putL (b' := (ngB R3a)) (A' := Ar3) (n' := nr3) (c' := cr3) (p' := (ngB R3b)) (B' := Br3) (m' := mr3) (d' := dr3) (e' := R3c) x_y
 replace yr3 := yr3.putL (b' := (ngB R3a)) (A' := Ar3) (n' := nr3) (c' := cr3) (p' := (ngB R3b)) (B' := Br3) (m' := mr3) (d' := dr3) (e' := R3c) x_y
 replace ur3 := ur3.putL (b' := (ngB R3a)) (A' := Ar3) (n' := nr3) (c' := cr3) (p' := (ngB R3b)) (B' := Br3) (m' := mr3) (d' := dr3) (e' := R3c) x_y
 replace hb := put_belowL (g := v11.heap.size) hb (by omega) (.bool (ngB R3a)) (.slice Ar3 nr3 cr3) (.bool (ngB R3b)) (.slice Br3 mr3 dr3) (.int .i64 R3c)
 replace x_y := x_y.put (ngB R3a) Ar3 nr3 cr3 (ngB R3b) Br3 mr3 dr3 R3c
 clear q_a0 f_a0 q_a1 f_a1 q_a2 f_a2 q_a3 f_a3 q_a4 f_a4 q_b0 f_b0 q_b1 f_b1 q_b2 f_b2 q_b3 f_b3 q_b4 f_b4 q_x0 f_x0 q_x1 f_x1 q_x2 f_x2 q_x3 f_x3 q_x4 f_x4 q_y0 f_y0 q_y1 f_y1 q_y2 f_y2 q_y3 f_y3 q_y4 f_y4
 generalize ((((v21.setCell ⟨v11.heap.size, 0, none⟩ (.bool (ngB R3a))).setCell ⟨v11.heap.size, 1, none⟩ (.slice Ar3 nr3 cr3)).setCell ⟨v11.heap.size, 2, none⟩ (.bool (ngB R3b))).setCell ⟨v11.heap.size, 3, none⟩ (.slice Br3 mr3 dr3)).setCell ⟨v11.heap.size, 4, none⟩ (.int .i64 R3c) = v22 at *
 obtain ⟨q_a0, f_a0, q_a1, f_a1, q_a2, f_a2, q_a3, f_a3, q_a4, f_a4⟩ := x_a.al
 obtain ⟨q_b0, f_b0, q_b1, f_b1, q_b2, f_b2, q_b3, f_b3, q_b4, f_b4⟩ := x_b.al
 obtain ⟨q_x0, f_x0, q_x1, f_x1, q_x2, f_x2, q_x3, f_x3, q_x4, f_x4⟩ := x_x.al
 obtain ⟨q_y0, f_y0, q_y1, f_y1, q_y2, f_y2, q_y3, f_y3, q_y4, f_y4⟩ := x_y.al
 with_reducible refine (Leq_any yp3 up3 yr3 ur3).mono ?_
 rintro e v23 ⟨rfl, hb1⟩
 replace x_a := x_a.keep hb1
 replace x_b := x_b.keep hb1
 replace x_o := x_o.keep hb1
 replace x_x := x_x.keep hb1
 replace x_y := x_y.keep hb1
 replace p2 := p2.go hb1
 replace p3 := p3.go hb1
 replace zx := zx.keep hb1
 replace zy := zy.keep hb1
 replace zu := zu.keep hb1
 replace zv := zv.keep hb1
 replace p6 := p6.go hb1
 replace p7 := p7.go hb1
 replace yp3 := yp3.keep hb1
 replace up3 := up3.keep hb1
 replace yr3 := yr3.keep hb1
 replace ur3 := ur3.keep hb1
 replace hb := bthen hb hb1
 clear hb1
 clear q_a0 f_a0 q_a1 f_a1 q_a2 f_a2 q_a3 f_a3 q_a4 f_a4; obtain ⟨q_a0, f_a0, q_a1, f_a1, q_a2, f_a2, q_a3, f_a3, q_a4, f_a4⟩ := x_a.al
 clear q_b0 f_b0 q_b1 f_b1 q_b2 f_b2 q_b3 f_b3 q_b4 f_b4; obtain ⟨q_b0, f_b0, q_b1, f_b1, q_b2, f_b2, q_b3, f_b3, q_b4, f_b4⟩ := x_b.al
 clear q_x0 f_x0 q_x1 f_x1 q_x2 f_x2 q_x3 f_x3 q_x4 f_x4; obtain ⟨q_x0, f_x0, q_x1, f_x1, q_x2, f_x2, q_x3, f_x3, q_x4, f_x4⟩ := x_x.al
 clear q_y0 f_y0 q_y1 f_y1 q_y2 f_y2 q_y3 f_y3 q_y4 f_y4; obtain ⟨q_y0, f_y0, q_y1, f_y1, q_y2, f_y2, q_y3, f_y3, q_y4, f_y4⟩ := x_y.al
 go_wp2_with fail
 clear yp3 up3 yr3 ur3
 obtain ⟨q_o0, f_o0, q_o1, f_o1, q_o2, f_o2, q_o3, f_o3, q_o4, f_o4⟩ := x_o.al
 skip
 with_reducible refine (HR4.out.calls (fun hc => LDiv_v zx zy zu zv hc) (fun hc => LDiv_n zx zy zu zv hc)).mono ?_
 rintro e v24 ⟨Ap4, np4, cp4, Bp4, mp4, dp4, rfl, yp4, up4, hb1⟩
 replace x_a := x_a.keep hb1
 replace x_b := x_b.keep hb1
 replace x_o := x_o.keep hb1
 replace x_x := x_x.keep hb1
 replace x_y := x_y.keep hb1
 replace p2 := p2.go hb1
 replace p3 := p3.go hb1
 replace zx := zx.keep hb1
 replace zy := zy.keep hb1
 replace zu := zu.keep hb1
 replace zv := zv.keep hb1
 replace p6 := p6.go hb1
 replace p7 := p7.go hb1
 replace hb := bthen hb hb1
 clear hb1
 clear q_a0 f_a0 q_a1 f_a1 q_a2 f_a2 q_a3 f_a3 q_a4 f_a4; obtain ⟨q_a0, f_a0, q_a1, f_a1, q_a2, f_a2, q_a3, f_a3, q_a4, f_a4⟩ := x_a.al
 clear q_b0 f_b0 q_b1 f_b1 q_b2 f_b2 q_b3 f_b3 q_b4 f_b4; obtain ⟨q_b0, f_b0, q_b1, f_b1, q_b2, f_b2, q_b3, f_b3, q_b4, f_b4⟩ := x_b.al
 clear q_o0 f_o0 q_o1 f_o1 q_o2 f_o2 q_o3 f_o3 q_o4 f_o4; obtain ⟨q_o0, f_o0, q_o1, f_o1, q_o2, f_o2, q_o3, f_o3, q_o4, f_o4⟩ := x_o.al
 clear q_x0 f_x0 q_x1 f_x1 q_x2 f_x2 q_x3 f_x3 q_x4 f_x4; obtain ⟨q_x0, f_x0, q_x1, f_x1, q_x2, f_x2, q_x3, f_x3, q_x4, f_x4⟩ := x_x.al
 clear q_y0 f_y0 q_y1 f_y1 q_y2 f_y2 q_y3 f_y3 q_y4 f_y4; obtain ⟨q_y0, f_y0, q_y1, f_y1, q_y2, f_y2, q_y3, f_y3, q_y4, f_y4⟩ := x_y.al
 go_wp2_with fail
 replace x_a := x_a.asideL (b' := (ngB R4a)) (A' := Ap4) (n' := np4) (c' := cp4) (p' := (ngB R4b)) (B' := Bp4) (m' := mp4) (d' := dp4) (e' := R4c) (g := v9.heap.size) (by omega)
 replace x_b := x_b.asideL (b' := (ngB R4a)) (A' := Ap4) (n' := np4) (c' := cp4) (p' := (ngB R4b)) (B' := Bp4) (m' := mp4) (d' := dp4) (e' := R4c) (g := v9.heap.size) (by omega)
 replace x_o := x_o.asideL (b' := (ngB R4a)) (A' := Ap4) (n' := np4) (c' := cp4) (p' := (ngB R4b)) (B' := Bp4) (m' := mp4) (d' := dp4) (e' := R4c) (g := v9.heap.size) (by omega)
 replace x_y := x_y.asideL (b' := (ngB R4a)) (A' := Ap4) (n' := np4) (c' := cp4) (p' := (ngB R4b)) (B' := Bp4) (m' := mp4) (d' := dp4) (e' := R4c) (g := v9.heap.size) (by omega)
 replace p2 := p2.sputL (b' := (ngB R4a)) (A' := Ap4) (n' := np4) (c' := cp4) (p' := (ngB R4b)) (B' := Bp4) (m' := mp4) (d' := dp4) (e' := R4c) x_x
 replace p3 := p3.sputL (b' := (ngB R4a)) (A' := Ap4) (n' := np4) (c' := cp4) (p' := (ngB R4b)) (B' := Bp4) (m' := mp4) (d' := dp4) (e' := R4c) x_x
 replace zx := zx.putL (b' := (ngB R4a)) (A' := Ap4) (n' := np4) (c' := cp4) (p' := (ngB R4b)) (B' := Bp4) (m' := mp4) (d' := dp4) (e' := R4c) x_x
 replace zy := zy.putL (b' := (ngB R4a)) (A' := Ap4) (n' := np4) (c' := cp4) (p' := (ngB R4b)) (B' := Bp4) (m' := mp4) (d' := dp4) (e' := R4c) x_x
 replace zu := zu.putL (b' := (ngB R4a)) (A' := Ap4) (n' := np4) (c' := cp4) (p' := (ngB R4b)) (B' := Bp4) (m' := mp4) (d' := dp4) (e' := R4c) x_x
 replace zv := zv.putL (b' := (ngB R4a)) (A' := Ap4) (n' := np4) (c' := cp4) (p' := (ngB R4b)) (B' := Bp4) (m' := mp4) (d' := dp4) (e' := R4c) x_x
 replace p6 := p6.sputL (b' := (ngB R4a)) (A' := Ap4) (n' := np4) (c' := cp4) (p' := (ngB R4b)) (B' := Bp4) (m' := mp4) (d' := dp4) (e' := R4c) x_x
 replace p7 := p7.sputL (b' := (ngB R4a)) (A' := Ap4) (n' := np4) (c' := cp4) (p' := (ngB R4b)) (B' := Bp4) (m' := mp4) (d' := dp4) (e' := R4c) x_x
 replace yp4 := yp4.putL (b' := (ngB R4a)) (A' := Ap4) (n' := np4) (c' := cp4) (p' := (ngB R4b)) (B' := Bp4) (m' := mp4) (d' := dp4) (e' := R4c) x_x
 replace up4 := up4.putL (b' := (ngB R4a)) (A' := Ap4) (n' := np4) (c' := cp4) (p' := (ngB R4b)) (B' := Bp4) (m' := mp4) (d' := dp4) (e' := R4c) x_x
 replace hb := put_belowL (g := v9.heap.size) hb (by omega) (.bool (ngB R4a)) (.slice Ap4 np4 cp4) (.bool (ngB R4b)) (.slice Bp4 mp4 dp4) (.int .i64 R4c)
 replace x_x := x_x.put (ngB R4a) Ap4 np4 cp4 (ngB R4b) Bp4 mp4 dp4 R4c
 clear q_a0 f_a0 q_a1 f_a1 q_a2 f_a2 q_a3 f_a3 q_a4 f_a4 q_b0 f_b0 q_b1 f_b1 q_b2 f_b2 q_b3 f_b3 q_b4 f_b4 q_o0 f_o0 q_o1 f_o1 q_o2 f_o2 q_o3 f_o3 q_o4 f_o4 q_x0 f_x0 q_x1 f_x1 q_x2 f_x2 q_x3 f_x3 q_x4 f_x4 q_y0 f_y0 q_y1 f_y1 q_y2 f_y2 q_y3 f_y3 q_y4 f_y4
 generalize ((((v24.setCell ⟨v9.heap.size, 0, none⟩ (.bool (ngB R4a))).setCell ⟨v9.heap.size, 1, none⟩ (.slice Ap4 np4 cp4)).setCell ⟨v9.heap.size, 2, none⟩ (.bool (ngB R4b))).setCell ⟨v9.heap.size, 3, none⟩ (.slice Bp4 mp4 dp4)).setCell ⟨v9.heap.size, 4, none⟩ (.int .i64 R4c) = v25 at *
 obtain ⟨q_a0, f_a0, q_a1, f_a1, q_a2, f_a2, q_a3, f_a3, q_a4, f_a4⟩ := x_a.al
 obtain ⟨q_b0, f_b0, q_b1, f_b1, q_b2, f_b2, q_b3, f_b3, q_b4, f_b4⟩ := x_b.al
 obtain ⟨q_o0, f_o0, q_o1, f_o1, q_o2, f_o2, q_o3, f_o3, q_o4, f_o4⟩ := x_o.al
 obtain ⟨q_x0, f_x0, q_x1, f_x1, q_x2, f_x2, q_x3, f_x3, q_x4, f_x4⟩ := x_x.al
 obtain ⟨q_y0, f_y0, q_y1, f_y1, q_y2, f_y2, q_y3, f_y3, q_y4, f_y4⟩ := x_y.al
 with_reducible refine (HR4.out.calls (fun hc => RDiv_v zx zy zu zv hc) (fun hc => RDiv_n zx zy zu zv hc)).mono ?_
 rintro e v26 ⟨Ar4, nr4, cr4, Br4, mr4, dr4, rfl, yr4, ur4, hb1⟩
 replace x_a := x_a.keep hb1
 replace x_b := x_b.keep hb1
 replace x_o := x_o.keep hb1
 replace x_x := x_x.keep hb1
 replace x_y := x_y.keep hb1
 replace p2 := p2.go hb1
 replace p3 := p3.go hb1
 replace zx := zx.keep hb1
 replace zy := zy.keep hb1
 replace zu := zu.keep hb1
 replace zv := zv.keep hb1
 replace p6 := p6.go hb1
 replace p7 := p7.go hb1
 replace yp4 := yp4.keep hb1
 replace up4 := up4.keep hb1
 replace hb := bthen hb hb1
 clear hb1
 clear q_a0 f_a0 q_a1 f_a1 q_a2 f_a2 q_a3 f_a3 q_a4 f_a4; obtain ⟨q_a0, f_a0, q_a1, f_a1, q_a2, f_a2, q_a3, f_a3, q_a4, f_a4⟩ := x_a.al
 clear q_b0 f_b0 q_b1 f_b1 q_b2 f_b2 q_b3 f_b3 q_b4 f_b4; obtain ⟨q_b0, f_b0, q_b1, f_b1, q_b2, f_b2, q_b3, f_b3, q_b4, f_b4⟩ := x_b.al
 clear q_o0 f_o0 q_o1 f_o1 q_o2 f_o2 q_o3 f_o3 q_o4 f_o4; obtain ⟨q_o0, f_o0, q_o1, f_o1, q_o2, f_o2, q_o3, f_o3, q_o4, f_o4⟩ := x_o.al
 clear q_x0 f_x0 q_x1 f_x1 q_x2 f_x2 q_x3 f_x3 q_x4 f_x4; obtain ⟨q_x0, f_x0, q_x1, f_x1, q_x2, f_x2, q_x3, f_x3, q_x4, f_x4⟩ := x_x.al
 clear q_y0 f_y0 q_y1 f_y1 q_y2 f_y2 q_y3 f_y3 q_y4 f_y4; obtain ⟨q_y0, f_y0, q_y1, f_y1, q_y2, f_y2, q_y3, f_y3, q_y4, f_y4⟩ := x_y.al
 go_wp2_with fail
 replace x_a := x_a.asideL (b' := (ngB R4a)) (A' := Ar4) (n' := nr4) (c' := cr4) (p' := (ngB R4b)) (B' := Br4) (m' := mr4) (d' := dr4) (e' := R4c) (g := v11.heap.size) (by omega)
 replace x_b := x_b.asideL (b' := (ngB R4a)) (A' := Ar4) (n' := nr4) (c' := cr4) (p' := (ngB R4b)) (B' := Br4) (m' := mr4) (d' := dr4) (e' := R4c) (g := v11.heap.size) (by omega)
 replace x_o := x_o.asideL (b' := (ngB R4a)) (A' := Ar4) (n' := nr4) (c' := cr4) (p' := (ngB R4b)) (B' := Br4) (m' := mr4) (d' := dr4) (e' := R4c) (g := v11.heap.size) (by omega)
 replace x_x := x_x.asideL (b' := (ngB R4a)) (A' := Ar4) (n' := nr4) (c' := cr4) (p' := (ngB R4b)) (B' := Br4) (m' := mr4) (d' := dr4) (e' := R4c) (g := v11.heap.size) (by omega)
 replace p2 := p2.sputL (b' := (ngB R4a)) (A' := Ar4) (n' := nr4) (c' := cr4) (p' := (ngB R4b)) (B' := Br4) (m' := mr4) (d' := dr4) (e' := R4c) x_y
 replace p3 := p3.sputL (b' := (ngB R4a)) (A' := Ar4) (n' := nr4) (c' := cr4) (p' := (ngB R4b)) (B' := Br4) (m' := mr4) (d' := dr4) (e' := R4c) x_y
 replace zx := zx.putL (b' := (ngB R4a)) (A' := Ar4) (n' := nr4) (c' := cr4) (p' := (ngB R4b)) (B' := Br4) (m' := mr4) (d' := dr4) (e' := R4c) x_y
 replace zy := zy.putL (b' := (ngB R4a)) (A' := Ar4) (n' := nr4) (c' := cr4) (p' := (ngB R4b)) (B' := Br4) (m' := mr4) (d' := dr4) (e' := R4c) x_y
 replace zu := zu.putL (b' := (ngB R4a)) (A' := Ar4) (n' := nr4) (c' := cr4) (p' := (ngB R4b)) (B' := Br4) (m' := mr4) (d' := dr4) (e' := R4c) x_y
 replace zv := zv.putL (b' := (ngB R4a)) (A' := Ar4) (n' := nr4) (c' := cr4) (p' := (ngB R4b)) (B' := Br4) (m' := mr4) (d' := dr4) (e' := R4c) x_y
 replace p6 := p6.sputL (b' := (ngB R4a)) (A' := Ar4) (n' := nr4) (c' := cr4) (p' := (ngB R4b)) (B' := Br4) (m' := mr4) (d' := dr4) (e' := R4c) x_y
 replace p7 := p7.sputL (b' := (ngB R4a)) (A' := Ar4) (n' := nr4) (c' := cr4) (p' := (ngB R4b)) (B' := Br4) (m' := mr4) (d' := dr4) (e' := R4c) x_y
 replace yp4 := yp4.putL (b' := (ngB R4a)) (A' := Ar4) (n' := nr4) (c' := cr4) (p' := (ngB R4b)) (B' := Br4) (m' := mr4) (d' := dr4) (e' := R4c) x_y
 replace up4 := up4.putL (b' := (ngB R4a)) (A' := Ar4) (n' := nr4) (c' := cr4) (p' := (ngB R4b)) (B' := Br4) (m' := mr4) (d' := dr4) (e' := R4c) x_y
 replace yr4 := yr4.putL (b' := (ngB R4a)) (A' := Ar4) (n' := nr4) (c' := cr4) (p' := (ngB R4b)) (B' := Br4) (m' := mr4) (d' := dr4) (e' := R4c) x_y
 replace ur4 := ur4.putL (b' := (ngB R4a)) (A' := Ar4) (n' := nr4) (c' := cr4) (p' := (ngB R4b)) (B' := Br4) (m' := mr4) (d' := dr4) (e' := R4c) x_y
 replace hb := put_belowL (g := v11.heap.size) hb (by omega) (.bool (ngB R4a)) (.slice Ar4 nr4 cr4) (.bool (ngB R4b)) (.slice Br4 mr4 dr4) (.int .i64 R4c)
 replace x_y := x_y.put (ngB R4a) Ar4 nr4 cr4 (ngB R4b) Br4 mr4 dr4 R4c
 clear q_a0 f_a0 q_a1 f_a1 q_a2 f_a2 q_a3 f_a3 q_a4 f_a4 q_b0 f_b0 q_b1 f_b1 q_b2 f_b2 q_b3 f_b3 q_b4 f_b4 q_o0 f_o0 q_o1 f_o1 q_o2 f_o2 q_o3 f_o3 q_o4 f_o4 q_x0 f_x0 q_x1 f_x1 q_x2 f_x2 q_x3 f_x3 q_x4 f_x4 q_y0 f_y0 q_y1 f_y1 q_y2 f_y2 q_y3 f_y3 q_y4 f_y4
 generalize ((((v26.setCell ⟨v11.heap.size, 0, none⟩ (.bool (ngB R4a))).setCell ⟨v11.heap.size, 1, none⟩ (.slice Ar4 nr4 cr4)).setCell ⟨v11.heap.size, 2, none⟩ (.bool (ngB R4b))).setCell ⟨v11.heap.size, 3, none⟩ (.slice Br4 mr4 dr4)).setCell ⟨v11.heap.size, 4, none⟩ (.int .i64 R4c) = v27 at *
 obtain ⟨q_a0, f_a0, q_a1, f_a1, q_a2, f_a2, q_a3, f_a3, q_a4, f_a4⟩ := x_a.al
 obtain ⟨q_b0, f_b0, q_b1, f_b1, q_b2, f_b2, q_b3, f_b3, q_b4, f_b4⟩ := x_b.al
 obtain ⟨q_o0, f_o0, q_o1, f_o1, q_o2, f_o2, q_o3, f_o3, q_o4, f_o4⟩ := x_o.al
 obtain ⟨q_x0, f_x0, q_x1, f_x1, q_x2, f_x2, q_x3, f_x3, q_x4, f_x4⟩ := x_x.al
 obtain ⟨q_y0, f_y0, q_y1, f_y1, q_y2, f_y2, q_y3, f_y3, q_y4, f_y4⟩ := x_y.al
 with_reducible refine (Leq_any yp4 up4 yr4 ur4).mono ?_
 rintro e v28 ⟨rfl, hb1⟩
 replace x_a := x_a.keep hb1
 replace x_b := x_b.keep hb1
 replace x_o := x_o.keep hb1
 replace x_x := x_x.keep hb1
 replace x_y := x_y.keep hb1
 replace p2 := p2.go hb1
 replace p3 := p3.go hb1
 replace zx := zx.keep hb1
 replace zy := zy.keep hb1
 replace zu := zu.keep hb1
 replace zv := zv.keep hb1
 replace p6 := p6.go hb1
 replace p7 := p7.go hb1
 replace yp4 := yp4.keep hb1
 replace up4 := up4.keep hb1
 replace yr4 := yr4.keep hb1
 replace ur4 := ur4.keep hb1
 replace hb := bthen hb hb1
 clear hb1
 clear q_a0 f_a0 q_a1 f_a1 q_a2 f_a2 q_a3 f_a3 q_a4 f_a4; obtain ⟨q_a0, f_a0, q_a1, f_a1, q_a2, f_a2, q_a3, f_a3, q_a4, f_a4⟩ := x_a.al
 clear q_b0 f_b0 q_b1 f_b1 q_b2 f_b2 q_b3 f_b3 q_b4 f_b4; obtain ⟨q_b0, f_b0, q_b1, f_b1, q_b2, f_b2, q_b3, f_b3, q_b4, f_b4⟩ := x_b.al
 clear q_o0 f_o0 q_o1 f_o1 q_o2 f_o2 q_o3 f_o3 q_o4 f_o4; obtain ⟨q_o0, f_o0, q_o1, f_o1, q_o2, f_o2, q_o3, f_o3, q_o4, f_o4⟩ := x_o.al
 clear q_x0 f_x0 q_x1 f_x1 q_x2 f_x2 q_x3 f_x3 q_x4 f_x4; obtain ⟨q_x0, f_x0, q_x1, f_x1, q_x2, f_x2, q_x3, f_x3, q_x4, f_x4⟩ := x_x.al
 clear q_y0 f_y0 q_y1 f_y1 q_y2 f_y2 q_y3 f_y3 q_y4 f_y4; obtain ⟨q_y0, f_y0, q_y1, f_y1, q_y2, f_y2, q_y3, f_y3, q_y4, f_y4⟩ := x_y.al
 go_wp2_with fail
 clear yp4 up4 yr4 ur4
 skip
 with_reducible refine (Lequal_raw p6 p7 p2 p3).mono ?_
 rintro e v29 ⟨rfl, hb1⟩
 replace x_a := x_a.keep hb1
 replace x_b := x_b.keep hb1
 replace x_o := x_o.keep hb1
 replace x_x := x_x.keep hb1
 replace x_y := x_y.keep hb1
 replace p2 := p2.go hb1
 replace p3 := p3.go hb1
 replace zx := zx.keep hb1
 replace zy := zy.keep hb1
 replace zu := zu.keep hb1
 replace zv := zv.keep hb1
 replace p6 := p6.go hb1
 replace p7 := p7.go hb1
 replace hb := bthen hb hb1
 clear hb1
 clear q_a0 f_a0 q_a1 f_a1 q_a2 f_a2 q_a3 f_a3 q_a4 f_a4; obtain ⟨q_a0, f_a0, q_a1, f_a1, q_a2, f_a2, q_a3, f_a3, q_a4, f_a4⟩ := x_a.al
 clear q_b0 f_b0 q_b1 f_b1 q_b2 f_b2 q_b3 f_b3 q_b4 f_b4; obtain ⟨q_b0, f_b0, q_b1, f_b1, q_b2, f_b2, q_b3, f_b3, q_b4, f_b4⟩ := x_b.al
 clear q_o0 f_o0 q_o1 f_o1 q_o2 f_o2 q_o3 f_o3 q_o4 f_o4; obtain ⟨q_o0, f_o0, q_o1, f_o1, q_o2, f_o2, q_o3, f_o3, q_o4, f_o4⟩ := x_o.al
 clear q_x0 f_x0 q_x1 f_x1 q_x2 f_x2 q_x3 f_x3 q_x4 f_x4; obtain ⟨q_x0, f_x0, q_x1, f_x1, q_x2, f_x2, q_x3, f_x3, q_x4, f_x4⟩ := x_x.al
 clear q_y0 f_y0 q_y1 f_y1 q_y2 f_y2 q_y3 f_y3 q_y4 f_y4; obtain ⟨q_y0, f_y0, q_y1, f_y1, q_y2, f_y2, q_y3, f_y3, q_y4, f_y4⟩ := x_y.al
 go_wp2
 go_ret
 first | exact ⟨rfl, hb⟩ | exact ⟨by simp, hb⟩

end Go.Proofs.YtiigacddjihokaaGreatDoor
