/-
  The law BallTimes, as a call.
-/
import Derived.Test.YtiigacddjihokaaGreatDoorLput
import Derived.Test.YtiigacddjihokaaGreatDoorLrs
import Derived.Test.YtiigacddjihokaaGreatDoorLrtimes
import Derived.Test.YtiigacddjihokaaGreatDoorLtimes
import Derived.Test.YtiigacddjihokaaGreatDoorLtimes2
import Derived.Test.YtiigacddjihokaaGreatDoorLshown
namespace Go.Proofs.YtiigacddjihokaaGreatDoor
open Go.RowKit
set_option linter.unusedVariables false

set_option maxRecDepth 100000 in
set_option maxHeartbeats 16000000 in
theorem BallTimes_any {b b2 : Bool} {A A2 : Option Addr} {n c n2 c2 : Nat} {q : Int} {l0 l1 : List Int} {bd : Bool} {Ad : Option Addr} {nd cd : Nat} {ld : List Int} {w : World} (hT : Tab w) (g0 : Rd w w.heap.size A n c l0) (g1 : Rd w w.heap.size A2 n2 c2 l1) (gd : Rd w w.heap.size Ad nd cd ld) (p : Int) (hp : -9223372036854775808 ≤ p ∧ p ≤ 9223372036854775807) :
    Calls Tryz.prog 5 #[.agg #[.bool b, .slice A n c, .bool b2, .slice A2 n2 c2, .int .i64 q], .agg #[.bool bd, .slice Ad nd cd], .int .i64 p] w fun e w' => e = .returned (.bool true) ∧ Below w.heap.size w w' := by
  go_enter Tryz.func5, Tryz.ntmps5
  go_wp2_with fail
  have x_a : Lx (w.alloc (.cells #[.bool b, .slice A n c, .bool b2, .slice A2 n2 c2, .int .i64 q] 26)) (w.heap.size) b A n c b2 A2 n2 c2 q := by have := Lx.new w b A n c b2 A2 n2 c2 q; simpa using this
  replace x_a := x_a.alloc (.cells #[.bool bd, .slice Ad nd cd] 24)
  have x_d : Bx ((w.alloc (.cells #[.bool b, .slice A n c, .bool b2, .slice A2 n2 c2, .int .i64 q] 26)).alloc (.cells #[.bool bd, .slice Ad nd cd] 24)) (w.heap.size + 1) bd Ad nd cd := by have := Bx.new (w.alloc (.cells #[.bool b, .slice A n c, .bool b2, .slice A2 n2 c2, .int .i64 q] 26)) bd Ad nd cd; simpa using this
  have hb : Below w.heap.size w ((w.alloc (.cells #[.bool b, .slice A n c, .bool b2, .slice A2 n2 c2, .int .i64 q] 26)).alloc (.cells #[.bool bd, .slice Ad nd cd] 24)) := (Below.alloc (Below.alloc (Below.refl w.heap.size w) (by simp) (.cells #[.bool b, .slice A n c, .bool b2, .slice A2 n2 c2, .int .i64 q] 26)) (by simp) (.cells #[.bool bd, .slice Ad nd cd] 24))
  generalize (w.alloc (.cells #[.bool b, .slice A n c, .bool b2, .slice A2 n2 c2, .int .i64 q] 26)).alloc (.cells #[.bool bd, .slice Ad nd cd] 24) = v1 at *
  replace g0 := g0.go hb
  replace g1 := g1.go hb
  replace gd := gd.go hb
  replace hT := hT.keep hb
  obtain ⟨q_a0, f_a0, q_a1, f_a1, q_a2, f_a2, q_a3, f_a3, q_a4, f_a4⟩ := x_a.al
  obtain ⟨q_d0, f_d0, q_d1, f_d1⟩ := x_d.al
  go_wp2_with fail
  with_reducible refine (Lshown_any hT).mono ?_
  rintro e v2 ⟨rfl, hb1⟩
  replace x_a := x_a.keep hb1
  replace x_d := x_d.keep hb1
  replace g0 := g0.go hb1
  replace g1 := g1.go hb1
  replace gd := gd.go hb1
  replace hT := hT.keep hb1
  replace hb := bthen hb hb1
  clear hb1
  clear q_a0 f_a0 q_a1 f_a1 q_a2 f_a2 q_a3 f_a3 q_a4 f_a4; obtain ⟨q_a0, f_a0, q_a1, f_a1, q_a2, f_a2, q_a3, f_a3, q_a4, f_a4⟩ := x_a.al
  clear q_d0 f_d0 q_d1 f_d1; obtain ⟨q_d0, f_d0, q_d1, f_d1⟩ := x_d.al
  go_wp2_with fail
  with_reducible refine (Lcut_at g0 g1 8 8 rfl (by omega)).mono ?_
  rintro e v3 ⟨E1, m1, k1, F1, s1, t1, rfl, p2, h2, p3, h3, hb1⟩
  replace x_a := x_a.keep hb1
  replace x_d := x_d.keep hb1
  replace g0 := g0.go hb1
  replace g1 := g1.go hb1
  replace gd := gd.go hb1
  replace hT := hT.keep hb1
  replace hb := bthen hb hb1
  clear hb1
  clear q_a0 f_a0 q_a1 f_a1 q_a2 f_a2 q_a3 f_a3 q_a4 f_a4; obtain ⟨q_a0, f_a0, q_a1, f_a1, q_a2, f_a2, q_a3, f_a3, q_a4, f_a4⟩ := x_a.al
  clear q_d0 f_d0 q_d1 f_d1; obtain ⟨q_d0, f_d0, q_d1, f_d1⟩ := x_d.al
  clear g0 g1
  go_wp2_with fail
  replace x_d := x_d.asideL (b' := b) (A' := E1) (n' := m1) (c' := k1) (p' := b2) (B' := F1) (m' := s1) (d' := t1) (e' := q) (g := w.heap.size) (by omega)
  replace gd := gd.sputL (b' := b) (A' := E1) (n' := m1) (c' := k1) (p' := b2) (B' := F1) (m' := s1) (d' := t1) (e' := q) x_a
  replace hT := hT.putL (b' := b) (A' := E1) (n' := m1) (c' := k1) (p' := b2) (B' := F1) (m' := s1) (d' := t1) (e' := q) x_a
  replace p2 := p2.sputL (b' := b) (A' := E1) (n' := m1) (c' := k1) (p' := b2) (B' := F1) (m' := s1) (d' := t1) (e' := q) x_a
  replace p3 := p3.sputL (b' := b) (A' := E1) (n' := m1) (c' := k1) (p' := b2) (B' := F1) (m' := s1) (d' := t1) (e' := q) x_a
  replace hb := put_belowL (g := w.heap.size) hb (by omega) (.bool b) (.slice E1 m1 k1) (.bool b2) (.slice F1 s1 t1) (.int .i64 q)
  replace x_a := x_a.put b E1 m1 k1 b2 F1 s1 t1 q
  clear q_a0 f_a0 q_a1 f_a1 q_a2 f_a2 q_a3 f_a3 q_a4 f_a4 q_d0 f_d0 q_d1 f_d1
  generalize ((((v3.setCell ⟨w.heap.size, 0, none⟩ (.bool b)).setCell ⟨w.heap.size, 1, none⟩ (.slice E1 m1 k1)).setCell ⟨w.heap.size, 2, none⟩ (.bool b2)).setCell ⟨w.heap.size, 3, none⟩ (.slice F1 s1 t1)).setCell ⟨w.heap.size, 4, none⟩ (.int .i64 q) = v4 at *
  obtain ⟨q_a0, f_a0, q_a1, f_a1, q_a2, f_a2, q_a3, f_a3, q_a4, f_a4⟩ := x_a.al
  obtain ⟨q_d0, f_d0, q_d1, f_d1⟩ := x_d.al
  with_reducible refine (Lim_at gd 8 8 rfl (by omega)).mono ?_
  rintro e v5 ⟨E3, m3, k3, rfl, p6, h6, hb1⟩
  replace x_a := x_a.keep hb1
  replace x_d := x_d.keep hb1
  replace gd := gd.go hb1
  replace hT := hT.keep hb1
  replace p2 := p2.go hb1
  replace p3 := p3.go hb1
  replace hb := bthen hb hb1
  clear hb1
  clear q_a0 f_a0 q_a1 f_a1 q_a2 f_a2 q_a3 f_a3 q_a4 f_a4; obtain ⟨q_a0, f_a0, q_a1, f_a1, q_a2, f_a2, q_a3, f_a3, q_a4, f_a4⟩ := x_a.al
  clear q_d0 f_d0 q_d1 f_d1; obtain ⟨q_d0, f_d0, q_d1, f_d1⟩ := x_d.al
  clear gd
  go_wp2_with fail
  replace x_a := x_a.aside (b' := bd) (A' := E3) (n' := m3) (c' := k3) (g := w.heap.size + 1) (by omega)
  replace hT := hT.put (b' := bd) (A' := E3) (n' := m3) (c' := k3) x_d
  replace p2 := p2.sput (b' := bd) (A' := E3) (n' := m3) (c' := k3) x_d
  replace p3 := p3.sput (b' := bd) (A' := E3) (n' := m3) (c' := k3) x_d
  replace p6 := p6.sput (b' := bd) (A' := E3) (n' := m3) (c' := k3) x_d
  replace hb := put_below (g := w.heap.size + 1) hb (by omega) (.bool bd) (.slice E3 m3 k3)
  replace x_d := x_d.put bd E3 m3 k3
  clear q_a0 f_a0 q_a1 f_a1 q_a2 f_a2 q_a3 f_a3 q_a4 f_a4 q_d0 f_d0 q_d1 f_d1
  generalize (v5.setCell ⟨w.heap.size + 1, 0, none⟩ (.bool bd)).setCell ⟨w.heap.size + 1, 1, none⟩ (.slice E3 m3 k3) = v6 at *
  obtain ⟨q_a0, f_a0, q_a1, f_a1, q_a2, f_a2, q_a3, f_a3, q_a4, f_a4⟩ := x_a.al
  obtain ⟨q_d0, f_d0, q_d1, f_d1⟩ := x_d.al
  obtain ⟨X, zx⟩ : ∃ X, Zr v6 b E1 m1 k1 X 8 := ⟨_, _, p2, rfl, h2⟩
  clear p2 h2
  obtain ⟨Y, zy⟩ : ∃ X, Zr v6 b2 F1 s1 t1 X 8 := ⟨_, _, p3, rfl, h3⟩
  clear p3 h3
  obtain ⟨M, zm⟩ : ∃ X, Zr v6 bd E3 m3 k3 X 8 := ⟨_, _, p6, rfl, h6⟩
  clear p6 h6
  obtain ⟨R1a, R1b, R1c, R1d, hR1⟩ := RsIs.ex (0 ≤ q ∧ q ≤ 2048 ∧ X ≤ Y) (min (X * M) (Y * M)) (max (X * M) (Y * M)) (q) 1
  have HR1 := Lib.hid hR1; clear hR1
  obtain ⟨R2a, R2b, R2c, R2d, hR2⟩ := RsIs.ex ((0 ≤ q ∧ q ≤ 2048 ∧ X ≤ Y) ∧ -4000 ≤ p ∧ p ≤ 4000) (flI X p) (-flI (-Y) p) (q) 1
  have HR2 := Lib.hid hR2; clear hR2
  skip
  with_reducible refine (HR1.out.calls (fun hc => Times_yes zx zy zm hc (by omega) (by omega) (by omega)) (fun hc => Times_no zx zy hc (by omega) (by omega))).mono ?_
  rintro e v7 ⟨Ap1, np1, cp1, Bp1, mp1, dp1, rfl, yp1, up1, hb1⟩
  replace x_a := x_a.keep hb1
  replace x_d := x_d.keep hb1
  replace hT := hT.keep hb1
  replace zx := zx.keep hb1
  replace zy := zy.keep hb1
  replace zm := zm.keep hb1
  replace hb := bthen hb hb1
  clear hb1
  clear q_a0 f_a0 q_a1 f_a1 q_a2 f_a2 q_a3 f_a3 q_a4 f_a4; obtain ⟨q_a0, f_a0, q_a1, f_a1, q_a2, f_a2, q_a3, f_a3, q_a4, f_a4⟩ := x_a.al
  clear q_d0 f_d0 q_d1 f_d1; obtain ⟨q_d0, f_d0, q_d1, f_d1⟩ := x_d.al
  have y_a := (x_a.alloc (.cells #[.bool (ngB R1a), .slice Ap1 np1 cp1, .bool (ngB R1b), .slice Bp1 mp1 dp1, .int .i64 R1c] 26)); have yq_a0 := y_a.c0; have yq_a1 := y_a.c1; have yq_a2 := y_a.c2; have yq_a3 := y_a.c3; have yq_a4 := y_a.c4
  have y_d := (x_d.alloc (.cells #[.bool (ngB R1a), .slice Ap1 np1 cp1, .bool (ngB R1b), .slice Bp1 mp1 dp1, .int .i64 R1c] 26)); have yq_d0 := y_d.c0; have yq_d1 := y_d.c1
  go_wp2_with fail
  clear y_a yq_a0 yq_a1 yq_a2 yq_a3 yq_a4 y_d yq_d0 yq_d1
  have hb1 := below_alloc v7 (.cells #[.bool (ngB R1a), .slice Ap1 np1 cp1, .bool (ngB R1b), .slice Bp1 mp1 dp1, .int .i64 R1c] 26)
  have l_a_x := x_a.lt
  have l_d_x := x_d.lt
  have x_x := Lx.new v7 (ngB R1a) Ap1 np1 cp1 (ngB R1b) Bp1 mp1 dp1 R1c
  have e_x : w.heap.size ≤ v7.heap.size := hb.size
  clear q_a0 f_a0 q_a1 f_a1 q_a2 f_a2 q_a3 f_a3 q_a4 f_a4 q_d0 f_d0 q_d1 f_d1
  replace x_a := x_a.keep hb1
  replace x_d := x_d.keep hb1
  replace hT := hT.keep hb1
  replace zx := zx.keep hb1
  replace zy := zy.keep hb1
  replace zm := zm.keep hb1
  replace yp1 := yp1.keep hb1
  replace up1 := up1.keep hb1
  replace hb := bthen hb hb1
  clear hb1
  generalize v7.alloc (.cells #[.bool (ngB R1a), .slice Ap1 np1 cp1, .bool (ngB R1b), .slice Bp1 mp1 dp1, .int .i64 R1c] 26) = v8 at *
  obtain ⟨q_a0, f_a0, q_a1, f_a1, q_a2, f_a2, q_a3, f_a3, q_a4, f_a4⟩ := x_a.al
  obtain ⟨q_d0, f_d0, q_d1, f_d1⟩ := x_d.al
  obtain ⟨q_x0, f_x0, q_x1, f_x1, q_x2, f_x2, q_x3, f_x3, q_x4, f_x4⟩ := x_x.al
  skip
  with_reducible refine (HR1.out.calls (fun hc => RTimes_yes zx zy zm hc (by omega) (by omega) (by omega)) (fun hc => RTimes_no zx zy hc (by omega) (by omega))).mono ?_
  rintro e v9 ⟨Ar1, nr1, cr1, Br1, mr1, dr1, rfl, yr1, ur1, hb1⟩
  replace x_a := x_a.keep hb1
  replace x_d := x_d.keep hb1
  replace x_x := x_x.keep hb1
  replace hT := hT.keep hb1
  replace zx := zx.keep hb1
  replace zy := zy.keep hb1
  replace zm := zm.keep hb1
  replace yp1 := yp1.keep hb1
  replace up1 := up1.keep hb1
  replace hb := bthen hb hb1
  clear hb1
  clear q_a0 f_a0 q_a1 f_a1 q_a2 f_a2 q_a3 f_a3 q_a4 f_a4; obtain ⟨q_a0, f_a0, q_a1, f_a1, q_a2, f_a2, q_a3, f_a3, q_a4, f_a4⟩ := x_a.al
  clear q_d0 f_d0 q_d1 f_d1; obtain ⟨q_d0, f_d0, q_d1, f_d1⟩ := x_d.al
  clear q_x0 f_x0 q_x1 f_x1 q_x2 f_x2 q_x3 f_x3 q_x4 f_x4; obtain ⟨q_x0, f_x0, q_x1, f_x1, q_x2, f_x2, q_x3, f_x3, q_x4, f_x4⟩ := x_x.al
  have y_a := (x_a.alloc (.cells #[.bool (ngB R1a), .slice Ar1 nr1 cr1, .bool (ngB R1b), .slice Br1 mr1 dr1, .int .i64 R1c] 26)); have yq_a0 := y_a.c0; have yq_a1 := y_a.c1; have yq_a2 := y_a.c2; have yq_a3 := y_a.c3; have yq_a4 := y_a.c4
  have y_d := (x_d.alloc (.cells #[.bool (ngB R1a), .slice Ar1 nr1 cr1, .bool (ngB R1b), .slice Br1 mr1 dr1, .int .i64 R1c] 26)); have yq_d0 := y_d.c0; have yq_d1 := y_d.c1
  have y_x := (x_x.alloc (.cells #[.bool (ngB R1a), .slice Ar1 nr1 cr1, .bool (ngB R1b), .slice Br1 mr1 dr1, .int .i64 R1c] 26)); have yq_x0 := y_x.c0; have yq_x1 := y_x.c1; have yq_x2 := y_x.c2; have yq_x3 := y_x.c3; have yq_x4 := y_x.c4
  go_wp2_with fail
  clear y_a yq_a0 yq_a1 yq_a2 yq_a3 yq_a4 y_d yq_d0 yq_d1 y_x yq_x0 yq_x1 yq_x2 yq_x3 yq_x4
  have hb1 := below_alloc v9 (.cells #[.bool (ngB R1a), .slice Ar1 nr1 cr1, .bool (ngB R1b), .slice Br1 mr1 dr1, .int .i64 R1c] 26)
  have l_a_y := x_a.lt
  have l_d_y := x_d.lt
  have l_x_y := x_x.lt
  have x_y := Lx.new v9 (ngB R1a) Ar1 nr1 cr1 (ngB R1b) Br1 mr1 dr1 R1c
  have e_y : w.heap.size ≤ v9.heap.size := hb.size
  clear q_a0 f_a0 q_a1 f_a1 q_a2 f_a2 q_a3 f_a3 q_a4 f_a4 q_d0 f_d0 q_d1 f_d1 q_x0 f_x0 q_x1 f_x1 q_x2 f_x2 q_x3 f_x3 q_x4 f_x4
  replace x_a := x_a.keep hb1
  replace x_d := x_d.keep hb1
  replace x_x := x_x.keep hb1
  replace hT := hT.keep hb1
  replace zx := zx.keep hb1
  replace zy := zy.keep hb1
  replace zm := zm.keep hb1
  replace yp1 := yp1.keep hb1
  replace up1 := up1.keep hb1
  replace yr1 := yr1.keep hb1
  replace ur1 := ur1.keep hb1
  replace hb := bthen hb hb1
  clear hb1
  generalize v9.alloc (.cells #[.bool (ngB R1a), .slice Ar1 nr1 cr1, .bool (ngB R1b), .slice Br1 mr1 dr1, .int .i64 R1c] 26) = v10 at *
  obtain ⟨q_a0, f_a0, q_a1, f_a1, q_a2, f_a2, q_a3, f_a3, q_a4, f_a4⟩ := x_a.al
  obtain ⟨q_d0, f_d0, q_d1, f_d1⟩ := x_d.al
  obtain ⟨q_x0, f_x0, q_x1, f_x1, q_x2, f_x2, q_x3, f_x3, q_x4, f_x4⟩ := x_x.al
  obtain ⟨q_y0, f_y0, q_y1, f_y1, q_y2, f_y2, q_y3, f_y3, q_y4, f_y4⟩ := x_y.al
  skip
  with_reducible refine (Leq_any yp1 up1 yr1 ur1).mono ?_
  rintro e v11 ⟨rfl, hb1⟩
  replace x_a := x_a.keep hb1
  replace x_d := x_d.keep hb1
  replace x_x := x_x.keep hb1
  replace x_y := x_y.keep hb1
  replace hT := hT.keep hb1
  replace zx := zx.keep hb1
  replace zy := zy.keep hb1
  replace zm := zm.keep hb1
  replace yp1 := yp1.keep hb1
  replace up1 := up1.keep hb1
  replace yr1 := yr1.keep hb1
  replace ur1 := ur1.keep hb1
  replace hb := bthen hb hb1
  clear hb1
  clear q_a0 f_a0 q_a1 f_a1 q_a2 f_a2 q_a3 f_a3 q_a4 f_a4; obtain ⟨q_a0, f_a0, q_a1, f_a1, q_a2, f_a2, q_a3, f_a3, q_a4, f_a4⟩ := x_a.al
  clear q_d0 f_d0 q_d1 f_d1; obtain ⟨q_d0, f_d0, q_d1, f_d1⟩ := x_d.al
  clear q_x0 f_x0 q_x1 f_x1 q_x2 f_x2 q_x3 f_x3 q_x4 f_x4; obtain ⟨q_x0, f_x0, q_x1, f_x1, q_x2, f_x2, q_x3, f_x3, q_x4, f_x4⟩ := x_x.al
  clear q_y0 f_y0 q_y1 f_y1 q_y2 f_y2 q_y3 f_y3 q_y4 f_y4; obtain ⟨q_y0, f_y0, q_y1, f_y1, q_y2, f_y2, q_y3, f_y3, q_y4, f_y4⟩ := x_y.al
  go_wp2_with fail
  clear yp1 up1 yr1 ur1
  clear q_d0 f_d0 q_d1 f_d1
  skip
  with_reducible refine (HR2.out.calls (fun hc => Shift_yes zx zy p hc.1 hc.2 (by omega) (by omega)) (fun hc => Shift_no zx zy p hc (by omega) (by omega))).mono ?_
  rintro e v12 ⟨Ap2, np2, cp2, Bp2, mp2, dp2, rfl, yp2, up2, hb1⟩
  replace x_a := x_a.keep hb1
  replace x_d := x_d.keep hb1
  replace x_x := x_x.keep hb1
  replace x_y := x_y.keep hb1
  replace hT := hT.keep hb1
  replace zx := zx.keep hb1
  replace zy := zy.keep hb1
  replace zm := zm.keep hb1
  replace hb := bthen hb hb1
  clear hb1
  clear q_a0 f_a0 q_a1 f_a1 q_a2 f_a2 q_a3 f_a3 q_a4 f_a4; obtain ⟨q_a0, f_a0, q_a1, f_a1, q_a2, f_a2, q_a3, f_a3, q_a4, f_a4⟩ := x_a.al
  clear q_x0 f_x0 q_x1 f_x1 q_x2 f_x2 q_x3 f_x3 q_x4 f_x4; obtain ⟨q_x0, f_x0, q_x1, f_x1, q_x2, f_x2, q_x3, f_x3, q_x4, f_x4⟩ := x_x.al
  clear q_y0 f_y0 q_y1 f_y1 q_y2 f_y2 q_y3 f_y3 q_y4 f_y4; obtain ⟨q_y0, f_y0, q_y1, f_y1, q_y2, f_y2, q_y3, f_y3, q_y4, f_y4⟩ := x_y.al
  go_wp2_with fail
  replace x_a := x_a.asideL (b' := (ngB R2a)) (A' := Ap2) (n' := np2) (c' := cp2) (p' := (ngB R2b)) (B' := Bp2) (m' := mp2) (d' := dp2) (e' := R2c) (g := v7.heap.size) (by omega)
  replace x_d := x_d.asideL (b' := (ngB R2a)) (A' := Ap2) (n' := np2) (c' := cp2) (p' := (ngB R2b)) (B' := Bp2) (m' := mp2) (d' := dp2) (e' := R2c) (g := v7.heap.size) (by omega)
  replace x_y := x_y.asideL (b' := (ngB R2a)) (A' := Ap2) (n' := np2) (c' := cp2) (p' := (ngB R2b)) (B' := Bp2) (m' := mp2) (d' := dp2) (e' := R2c) (g := v7.heap.size) (by omega)
  replace hT := hT.putL (b' := (ngB R2a)) (A' := Ap2) (n' := np2) (c' := cp2) (p' := (ngB R2b)) (B' := Bp2) (m' := mp2) (d' := dp2) (e' := R2c) x_x
  replace zx := zx.putL (b' := (ngB R2a)) (A' := Ap2) (n' := np2) (c' := cp2) (p' := (ngB R2b)) (B' := Bp2) (m' := mp2) (d' := dp2) (e' := R2c) x_x
  replace zy := zy.putL (b' := (ngB R2a)) (A' := Ap2) (n' := np2) (c' := cp2) (p' := (ngB R2b)) (B' := Bp2) (m' := mp2) (d' := dp2) (e' := R2c) x_x
  replace zm := zm.putL (b' := (ngB R2a)) (A' := Ap2) (n' := np2) (c' := cp2) (p' := (ngB R2b)) (B' := Bp2) (m' := mp2) (d' := dp2) (e' := R2c) x_x
  replace yp2 := yp2.putL (b' := (ngB R2a)) (A' := Ap2) (n' := np2) (c' := cp2) (p' := (ngB R2b)) (B' := Bp2) (m' := mp2) (d' := dp2) (e' := R2c) x_x
  replace up2 := up2.putL (b' := (ngB R2a)) (A' := Ap2) (n' := np2) (c' := cp2) (p' := (ngB R2b)) (B' := Bp2) (m' := mp2) (d' := dp2) (e' := R2c) x_x
  replace hb := put_belowL (g := v7.heap.size) hb (by omega) (.bool (ngB R2a)) (.slice Ap2 np2 cp2) (.bool (ngB R2b)) (.slice Bp2 mp2 dp2) (.int .i64 R2c)
  replace x_x := x_x.put (ngB R2a) Ap2 np2 cp2 (ngB R2b) Bp2 mp2 dp2 R2c
  clear q_a0 f_a0 q_a1 f_a1 q_a2 f_a2 q_a3 f_a3 q_a4 f_a4 q_x0 f_x0 q_x1 f_x1 q_x2 f_x2 q_x3 f_x3 q_x4 f_x4 q_y0 f_y0 q_y1 f_y1 q_y2 f_y2 q_y3 f_y3 q_y4 f_y4
  generalize ((((v12.setCell ⟨v7.heap.size, 0, none⟩ (.bool (ngB R2a))).setCell ⟨v7.heap.size, 1, none⟩ (.slice Ap2 np2 cp2)).setCell ⟨v7.heap.size, 2, none⟩ (.bool (ngB R2b))).setCell ⟨v7.heap.size, 3, none⟩ (.slice Bp2 mp2 dp2)).setCell ⟨v7.heap.size, 4, none⟩ (.int .i64 R2c) = v13 at *
  obtain ⟨q_a0, f_a0, q_a1, f_a1, q_a2, f_a2, q_a3, f_a3, q_a4, f_a4⟩ := x_a.al
  obtain ⟨q_x0, f_x0, q_x1, f_x1, q_x2, f_x2, q_x3, f_x3, q_x4, f_x4⟩ := x_x.al
  obtain ⟨q_y0, f_y0, q_y1, f_y1, q_y2, f_y2, q_y3, f_y3, q_y4, f_y4⟩ := x_y.al
  with_reducible refine (HR2.out.calls (fun hc => RShift_yes zx zy p hc.1 hc.2 (by omega) (by omega)) (fun hc => RShift_no zx zy p hc (by omega) (by omega))).mono ?_
  rintro e v14 ⟨Ar2, nr2, cr2, Br2, mr2, dr2, rfl, yr2, ur2, hb1⟩
  replace x_a := x_a.keep hb1
  replace x_d := x_d.keep hb1
  replace x_x := x_x.keep hb1
  replace x_y := x_y.keep hb1
  replace hT := hT.keep hb1
  replace zx := zx.keep hb1
  replace zy := zy.keep hb1
  replace zm := zm.keep hb1
  replace yp2 := yp2.keep hb1
  replace up2 := up2.keep hb1
  replace hb := bthen hb hb1
  clear hb1
  clear q_a0 f_a0 q_a1 f_a1 q_a2 f_a2 q_a3 f_a3 q_a4 f_a4; obtain ⟨q_a0, f_a0, q_a1, f_a1, q_a2, f_a2, q_a3, f_a3, q_a4, f_a4⟩ := x_a.al
  clear q_x0 f_x0 q_x1 f_x1 q_x2 f_x2 q_x3 f_x3 q_x4 f_x4; obtain ⟨q_x0, f_x0, q_x1, f_x1, q_x2, f_x2, q_x3, f_x3, q_x4, f_x4⟩ := x_x.al
  clear q_y0 f_y0 q_y1 f_y1 q_y2 f_y2 q_y3 f_y3 q_y4 f_y4; obtain ⟨q_y0, f_y0, q_y1, f_y1, q_y2, f_y2, q_y3, f_y3, q_y4, f_y4⟩ := x_y.al
  go_wp2_with fail
  replace x_a := x_a.asideL (b' := (ngB R2a)) (A' := Ar2) (n' := nr2) (c' := cr2) (p' := (ngB R2b)) (B' := Br2) (m' := mr2) (d' := dr2) (e' := R2c) (g := v9.heap.size) (by omega)
  replace x_d := x_d.asideL (b' := (ngB R2a)) (A' := Ar2) (n' := nr2) (c' := cr2) (p' := (ngB R2b)) (B' := Br2) (m' := mr2) (d' := dr2) (e' := R2c) (g := v9.heap.size) (by omega)
  replace x_x := x_x.asideL (b' := (ngB R2a)) (A' := Ar2) (n' := nr2) (c' := cr2) (p' := (ngB R2b)) (B' := Br2) (m' := mr2) (d' := dr2) (e' := R2c) (g := v9.heap.size) (by omega)
  replace hT := hT.putL (b' := (ngB R2a)) (A' := Ar2) (n' := nr2) (c' := cr2) (p' := (ngB R2b)) (B' := Br2) (m' := mr2) (d' := dr2) (e' := R2c) x_y
  replace zx := zx.putL (b' := (ngB R2a)) (A' := Ar2) (n' := nr2) (c' := cr2) (p' := (ngB R2b)) (B' := Br2) (m' := mr2) (d' := dr2) (e' := R2c) x_y
  replace zy := zy.putL (b' := (ngB R2a)) (A' := Ar2) (n' := nr2) (c' := cr2) (p' := (ngB R2b)) (B' := Br2) (m' := mr2) (d' := dr2) (e' := R2c) x_y
  replace zm := zm.putL (b' := (ngB R2a)) (A' := Ar2) (n' := nr2) (c' := cr2) (p' := (ngB R2b)) (B' := Br2) (m' := mr2) (d' := dr2) (e' := R2c) x_y
  replace yp2 := yp2.putL (b' := (ngB R2a)) (A' := Ar2) (n' := nr2) (c' := cr2) (p' := (ngB R2b)) (B' := Br2) (m' := mr2) (d' := dr2) (e' := R2c) x_y
  replace up2 := up2.putL (b' := (ngB R2a)) (A' := Ar2) (n' := nr2) (c' := cr2) (p' := (ngB R2b)) (B' := Br2) (m' := mr2) (d' := dr2) (e' := R2c) x_y
  replace yr2 := yr2.putL (b' := (ngB R2a)) (A' := Ar2) (n' := nr2) (c' := cr2) (p' := (ngB R2b)) (B' := Br2) (m' := mr2) (d' := dr2) (e' := R2c) x_y
  replace ur2 := ur2.putL (b' := (ngB R2a)) (A' := Ar2) (n' := nr2) (c' := cr2) (p' := (ngB R2b)) (B' := Br2) (m' := mr2) (d' := dr2) (e' := R2c) x_y
  replace hb := put_belowL (g := v9.heap.size) hb (by omega) (.bool (ngB R2a)) (.slice Ar2 nr2 cr2) (.bool (ngB R2b)) (.slice Br2 mr2 dr2) (.int .i64 R2c)
  replace x_y := x_y.put (ngB R2a) Ar2 nr2 cr2 (ngB R2b) Br2 mr2 dr2 R2c
  clear q_a0 f_a0 q_a1 f_a1 q_a2 f_a2 q_a3 f_a3 q_a4 f_a4 q_x0 f_x0 q_x1 f_x1 q_x2 f_x2 q_x3 f_x3 q_x4 f_x4 q_y0 f_y0 q_y1 f_y1 q_y2 f_y2 q_y3 f_y3 q_y4 f_y4
  generalize ((((v14.setCell ⟨v9.heap.size, 0, none⟩ (.bool (ngB R2a))).setCell ⟨v9.heap.size, 1, none⟩ (.slice Ar2 nr2 cr2)).setCell ⟨v9.heap.size, 2, none⟩ (.bool (ngB R2b))).setCell ⟨v9.heap.size, 3, none⟩ (.slice Br2 mr2 dr2)).setCell ⟨v9.heap.size, 4, none⟩ (.int .i64 R2c) = v15 at *
  obtain ⟨q_a0, f_a0, q_a1, f_a1, q_a2, f_a2, q_a3, f_a3, q_a4, f_a4⟩ := x_a.al
  obtain ⟨q_x0, f_x0, q_x1, f_x1, q_x2, f_x2, q_x3, f_x3, q_x4, f_x4⟩ := x_x.al
  obtain ⟨q_y0, f_y0, q_y1, f_y1, q_y2, f_y2, q_y3, f_y3, q_y4, f_y4⟩ := x_y.al
  with_reducible refine (Leq_any yp2 up2 yr2 ur2).mono ?_
  rintro e v16 ⟨rfl, hb1⟩
  replace x_a := x_a.keep hb1
  replace x_d := x_d.keep hb1
  replace x_x := x_x.keep hb1
  replace x_y := x_y.keep hb1
  replace hT := hT.keep hb1
  replace zx := zx.keep hb1
  replace zy := zy.keep hb1
  replace zm := zm.keep hb1
  replace yp2 := yp2.keep hb1
  replace up2 := up2.keep hb1
  replace yr2 := yr2.keep hb1
  replace ur2 := ur2.keep hb1
  replace hb := bthen hb hb1
  clear hb1
  clear q_a0 f_a0 q_a1 f_a1 q_a2 f_a2 q_a3 f_a3 q_a4 f_a4; obtain ⟨q_a0, f_a0, q_a1, f_a1, q_a2, f_a2, q_a3, f_a3, q_a4, f_a4⟩ := x_a.al
  clear q_x0 f_x0 q_x1 f_x1 q_x2 f_x2 q_x3 f_x3 q_x4 f_x4; obtain ⟨q_x0, f_x0, q_x1, f_x1, q_x2, f_x2, q_x3, f_x3, q_x4, f_x4⟩ := x_x.al
  clear q_y0 f_y0 q_y1 f_y1 q_y2 f_y2 q_y3 f_y3 q_y4 f_y4; obtain ⟨q_y0, f_y0, q_y1, f_y1, q_y2, f_y2, q_y3, f_y3, q_y4, f_y4⟩ := x_y.al
  go_wp2_with fail
  clear yp2 up2 yr2 ur2
  skip
  go_ret
  first | exact ⟨rfl, hb⟩ | exact ⟨by simp, hb⟩

end Go.Proofs.YtiigacddjihokaaGreatDoor
