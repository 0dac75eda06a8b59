/-
 the laws of ball: shown.
-/
import Derived.Test.YtiigacddjihokaaGreatDoorLsum
import Derived.Test.YtiigacddjihokaaGreatDoorLcut
namespace Go.Proofs.YtiigacddjihokaaGreatDoor
open Go.RowKit
set_option linter.unusedVariables false

theorem tx_neg {N : Nat} (h0 : 0 < N) (h : N < 10) : txL (-(N : Int)) = [45, digC N] := by
 unfold txL; rw [if_pos (by omega), show (-(N : Int)).natAbs = N by omega, decL_small h]; rfl
theorem tx_pos {N : Nat} (h : N < 10) : txL (N : Int) = [digC N] := by
 unfold txL; rw [if_neg (by omega), show (N : Int).natAbs = N by omega, decL_small h]; rfl
theorem tx_m4 : txL (-4) = [45, 52] := tx_neg (N := 4) (by omega) (by omega)
theorem tx_1 : txL 1 = [49] := tx_pos (N := 1) (by omega)
theorem tx_2 : txL 2 = [50] := tx_pos (N := 2) (by omega)
theorem tx_8 : txL 8 = [56] := tx_pos (N := 8) (by omega)
theorem sh_1 : od (cM 3 (-2)) = 3 ∧ nE (cM 3 (-2)) (cE (-2)) = -2 := by decide
theorem sh_2 : flI (cM 3 (-2)) (cE (-2) + 1) = 1 ∧ -flI (-cM 3 (-2)) (cE (-2) + 1) = 2 := by decide
theorem sh_3 : mn4 (fun x y => flI (x * y) (-0)) (-1) 2 3 4 = -4 ∧ mx4 (fun x y => -flI (-(x * y)) (-0)) (-1) 2 3 4 = 8 := by decide
theorem sh_4 : mn4 (fun x y => fdI (x * 2 ^ (2 : Int).toNat) y) 1 1 3 3 = 1 ∧ mx4 (fun x y => cdI (x * 2 ^ (2 : Int).toNat) y) 1 1 3 3 = 2 := by decide

set_option maxRecDepth 100000 in
set_option maxHeartbeats 8000000 in
theorem Lshown_any {w : World} (hT : Tab w) : Calls Tryz.prog 7 #[] w fun e w' => e = .returned (.bool true) ∧ Below w.heap.size w w' := by
 have hb := Below.refl w.heap.size w
 go_enter Tryz.func7, Tryz.ntmps7
 go_wp2_with fail
 with_reducible refine (ZOf_any 3 (by omega) (by omega)).mono ?_
 rintro e v1 ⟨A1, n1, c1, rfl, z1, hb1⟩
 replace hT := hT.keep hb1
 replace hb := bthen hb hb1
 clear hb1
 go_wp2_with fail
 with_reducible refine (DOf_any z1.zr hT 2 (by omega) (by omega)).mono ?_
 rintro e v2 ⟨A2, n2, c2, rfl, z2, hb1⟩
 replace hT := hT.keep hb1
 replace z1 := z1.keep hb1
 replace hb := bthen hb hb1
 clear hb1
 rw [sh_1.1] at z2
 rw [sh_1.1, sh_1.2]
 clear z1
 go_wp2_with fail
 with_reducible refine (Point_yes z2.zr 1 (by omega) 200 (by omega) (by omega)).mono ?_
 rintro e v3 ⟨A3, n3, c3, A4, n4, c4, rfl, z3, z4, hb1⟩
 replace hT := hT.keep hb1
 replace z2 := z2.keep hb1
 replace hb := bthen hb hb1
 clear hb1
 rw [sh_2.1] at z3
 rw [sh_2.2] at z4
 rw [sh_2.1, sh_2.2]
 clear z2
 go_wp2_with fail
 have hb1 := below_alloc v3 (.cells #[.bool (ngB 1), .slice A3 n3 c3, .bool (ngB 2), .slice A4 n4 c4, .int .i64 1] 26)
 have x_p := Lx.new v3 (ngB 1) A3 n3 c3 (ngB 2) A4 n4 c4 1
 have e_p : w.heap.size ≤ v3.heap.size := hb.size
 replace hT := hT.keep hb1
 replace z3 := z3.keep hb1
 replace z4 := z4.keep hb1
 replace hb := bthen hb hb1
 clear hb1
 generalize v3.alloc (.cells #[.bool (ngB 1), .slice A3 n3 c3, .bool (ngB 2), .slice A4 n4 c4, .int .i64 1] 26) = v4 at *
 obtain ⟨q_p0, f_p0, q_p1, f_p1, q_p2, f_p2, q_p3, f_p3, q_p4, f_p4⟩ := x_p.al
 skip
 with_reducible refine (made_any (-1) 2 0 (by omega) (by omega)).mono ?_
 rintro e v5 ⟨Aa0, na0, ca0, Ab0, nb0, cb0, rfl, za0, zb0, hb1⟩
 replace x_p := x_p.keep hb1
 replace hT := hT.keep hb1
 replace z3 := z3.keep hb1
 replace z4 := z4.keep hb1
 replace hb := bthen hb hb1
 clear hb1
 clear q_p0 f_p0 q_p1 f_p1 q_p2 f_p2 q_p3 f_p3 q_p4 f_p4; obtain ⟨q_p0, f_p0, q_p1, f_p1, q_p2, f_p2, q_p3, f_p3, q_p4, f_p4⟩ := x_p.al
 go_wp2_with fail
 with_reducible refine (made_any 3 4 0 (by omega) (by omega)).mono ?_
 rintro e v6 ⟨Aa1, na1, ca1, Ab1, nb1, cb1, rfl, za1, zb1, hb1⟩
 replace x_p := x_p.keep hb1
 replace hT := hT.keep hb1
 replace z3 := z3.keep hb1
 replace z4 := z4.keep hb1
 replace za0 := za0.keep hb1
 replace zb0 := zb0.keep hb1
 replace hb := bthen hb hb1
 clear hb1
 clear q_p0 f_p0 q_p1 f_p1 q_p2 f_p2 q_p3 f_p3 q_p4 f_p4; obtain ⟨q_p0, f_p0, q_p1, f_p1, q_p2, f_p2, q_p3, f_p3, q_p4, f_p4⟩ := x_p.al
 go_wp2_with fail
 with_reducible refine (LMul_any za0.zr zb0.zr za1.zr zb1.zr (by omega) (by omega) 1 (by omega) (by omega) (by omega) (by omega) 130 (by omega) (by omega)).mono ?_
 rintro e v7 ⟨A5, n5, c5, A6, n6, c6, rfl, z5, z6, hb1⟩
 replace x_p := x_p.keep hb1
 replace hT := hT.keep hb1
 replace z3 := z3.keep hb1
 replace z4 := z4.keep hb1
 replace za0 := za0.keep hb1
 replace zb0 := zb0.keep hb1
 replace za1 := za1.keep hb1
 replace zb1 := zb1.keep hb1
 replace hb := bthen hb hb1
 clear hb1
 clear q_p0 f_p0 q_p1 f_p1 q_p2 f_p2 q_p3 f_p3 q_p4 f_p4; obtain ⟨q_p0, f_p0, q_p1, f_p1, q_p2, f_p2, q_p3, f_p3, q_p4, f_p4⟩ := x_p.al
 rw [sh_3.1] at z5
 rw [sh_3.2] at z6
 rw [sh_3.1, sh_3.2]
 clear za0 zb0 za1 zb1
 have y_p := (x_p.alloc (.cells #[.bool (ngB (-4)), .slice A5 n5 c5, .bool (ngB 8), .slice A6 n6 c6, .int .i64 0] 26)); have yq_p0 := y_p.c0; have yq_p1 := y_p.c1; have yq_p2 := y_p.c2; have yq_p3 := y_p.c3; have yq_p4 := y_p.c4
 go_wp2_with fail
 clear y_p yq_p0 yq_p1 yq_p2 yq_p3 yq_p4
 have hb1 := below_alloc v7 (.cells #[.bool (ngB (-4)), .slice A5 n5 c5, .bool (ngB 8), .slice A6 n6 c6, .int .i64 0] 26)
 have l_p_m := x_p.lt
 have x_m := Lx.new v7 (ngB (-4)) A5 n5 c5 (ngB 8) A6 n6 c6 0
 have e_m : w.heap.size ≤ v7.heap.size := hb.size
 clear q_p0 f_p0 q_p1 f_p1 q_p2 f_p2 q_p3 f_p3 q_p4 f_p4
 replace x_p := x_p.keep hb1
 replace hT := hT.keep hb1
 replace z3 := z3.keep hb1
 replace z4 := z4.keep hb1
 replace z5 := z5.keep hb1
 replace z6 := z6.keep hb1
 replace hb := bthen hb hb1
 clear hb1
 generalize v7.alloc (.cells #[.bool (ngB (-4)), .slice A5 n5 c5, .bool (ngB 8), .slice A6 n6 c6, .int .i64 0] 26) = v8 at *
 obtain ⟨q_p0, f_p0, q_p1, f_p1, q_p2, f_p2, q_p3, f_p3, q_p4, f_p4⟩ := x_p.al
 obtain ⟨q_m0, f_m0, q_m1, f_m1, q_m2, f_m2, q_m3, f_m3, q_m4, f_m4⟩ := x_m.al
 skip
 with_reducible refine (made_any 1 1 2 (by omega) (by omega)).mono ?_
 rintro e v9 ⟨Aa0, na0, ca0, Ab0, nb0, cb0, rfl, za0, zb0, hb1⟩
 replace x_p := x_p.keep hb1
 replace x_m := x_m.keep hb1
 replace hT := hT.keep hb1
 replace z3 := z3.keep hb1
 replace z4 := z4.keep hb1
 replace z5 := z5.keep hb1
 replace z6 := z6.keep hb1
 replace hb := bthen hb hb1
 clear hb1
 clear q_p0 f_p0 q_p1 f_p1 q_p2 f_p2 q_p3 f_p3 q_p4 f_p4; obtain ⟨q_p0, f_p0, q_p1, f_p1, q_p2, f_p2, q_p3, f_p3, q_p4, f_p4⟩ := x_p.al
 clear q_m0 f_m0 q_m1 f_m1 q_m2 f_m2 q_m3 f_m3 q_m4 f_m4; obtain ⟨q_m0, f_m0, q_m1, f_m1, q_m2, f_m2, q_m3, f_m3, q_m4, f_m4⟩ := x_m.al
 go_wp2_with fail
 with_reducible refine (made_any 3 3 2 (by omega) (by omega)).mono ?_
 rintro e v10 ⟨Aa1, na1, ca1, Ab1, nb1, cb1, rfl, za1, zb1, hb1⟩
 replace x_p := x_p.keep hb1
 replace x_m := x_m.keep hb1
 replace hT := hT.keep hb1
 replace z3 := z3.keep hb1
 replace z4 := z4.keep hb1
 replace z5 := z5.keep hb1
 replace z6 := z6.keep hb1
 replace za0 := za0.keep hb1
 replace zb0 := zb0.keep hb1
 replace hb := bthen hb hb1
 clear hb1
 clear q_p0 f_p0 q_p1 f_p1 q_p2 f_p2 q_p3 f_p3 q_p4 f_p4; obtain ⟨q_p0, f_p0, q_p1, f_p1, q_p2, f_p2, q_p3, f_p3, q_p4, f_p4⟩ := x_p.al
 clear q_m0 f_m0 q_m1 f_m1 q_m2 f_m2 q_m3 f_m3 q_m4 f_m4; obtain ⟨q_m0, f_m0, q_m1, f_m1, q_m2, f_m2, q_m3, f_m3, q_m4, f_m4⟩ := x_m.al
 go_wp2_with fail
 with_reducible refine (LDiv_any za0.zr zb0.zr za1.zr zb1.zr (by omega) (by omega) (by omega) 1 (by omega) (by omega) (by omega) (by omega) 131 (by omega) (by omega)).mono ?_
 rintro e v11 ⟨A7, n7, c7, A8, n8, c8, rfl, z7, z8, hb1⟩
 replace x_p := x_p.keep hb1
 replace x_m := x_m.keep hb1
 replace hT := hT.keep hb1
 replace z3 := z3.keep hb1
 replace z4 := z4.keep hb1
 replace z5 := z5.keep hb1
 replace z6 := z6.keep hb1
 replace za0 := za0.keep hb1
 replace zb0 := zb0.keep hb1
 replace za1 := za1.keep hb1
 replace zb1 := zb1.keep hb1
 replace hb := bthen hb hb1
 clear hb1
 clear q_p0 f_p0 q_p1 f_p1 q_p2 f_p2 q_p3 f_p3 q_p4 f_p4; obtain ⟨q_p0, f_p0, q_p1, f_p1, q_p2, f_p2, q_p3, f_p3, q_p4, f_p4⟩ := x_p.al
 clear q_m0 f_m0 q_m1 f_m1 q_m2 f_m2 q_m3 f_m3 q_m4 f_m4; obtain ⟨q_m0, f_m0, q_m1, f_m1, q_m2, f_m2, q_m3, f_m3, q_m4, f_m4⟩ := x_m.al
 rw [sh_4.1] at z7
 rw [sh_4.2] at z8
 rw [sh_4.1, sh_4.2]
 clear za0 zb0 za1 zb1
 have y_p := (x_p.alloc (.cells #[.bool (ngB 1), .slice A7 n7 c7, .bool (ngB 2), .slice A8 n8 c8, .int .i64 2] 26)); have yq_p0 := y_p.c0; have yq_p1 := y_p.c1; have yq_p2 := y_p.c2; have yq_p3 := y_p.c3; have yq_p4 := y_p.c4
 have y_m := (x_m.alloc (.cells #[.bool (ngB 1), .slice A7 n7 c7, .bool (ngB 2), .slice A8 n8 c8, .int .i64 2] 26)); have yq_m0 := y_m.c0; have yq_m1 := y_m.c1; have yq_m2 := y_m.c2; have yq_m3 := y_m.c3; have yq_m4 := y_m.c4
 go_wp2_with fail
 clear y_p yq_p0 yq_p1 yq_p2 yq_p3 yq_p4 y_m yq_m0 yq_m1 yq_m2 yq_m3 yq_m4
 have hb1 := below_alloc v11 (.cells #[.bool (ngB 1), .slice A7 n7 c7, .bool (ngB 2), .slice A8 n8 c8, .int .i64 2] 26)
 have l_p_d := x_p.lt
 have l_m_d := x_m.lt
 have x_d := Lx.new v11 (ngB 1) A7 n7 c7 (ngB 2) A8 n8 c8 2
 have e_d : w.heap.size ≤ v11.heap.size := hb.size
 clear q_p0 f_p0 q_p1 f_p1 q_p2 f_p2 q_p3 f_p3 q_p4 f_p4 q_m0 f_m0 q_m1 f_m1 q_m2 f_m2 q_m3 f_m3 q_m4 f_m4
 replace x_p := x_p.keep hb1
 replace x_m := x_m.keep hb1
 replace hT := hT.keep hb1
 replace z3 := z3.keep hb1
 replace z4 := z4.keep hb1
 replace z5 := z5.keep hb1
 replace z6 := z6.keep hb1
 replace z7 := z7.keep hb1
 replace z8 := z8.keep hb1
 replace hb := bthen hb hb1
 clear hb1
 generalize v11.alloc (.cells #[.bool (ngB 1), .slice A7 n7 c7, .bool (ngB 2), .slice A8 n8 c8, .int .i64 2] 26) = v12 at *
 obtain ⟨q_p0, f_p0, q_p1, f_p1, q_p2, f_p2, q_p3, f_p3, q_p4, f_p4⟩ := x_p.al
 obtain ⟨q_m0, f_m0, q_m1, f_m1, q_m2, f_m2, q_m3, f_m3, q_m4, f_m4⟩ := x_m.al
 obtain ⟨q_d0, f_d0, q_d1, f_d1, q_d2, f_d2, q_d3, f_d3, q_d4, f_d4⟩ := x_d.al
 skip
 with_reducible refine (made_any 1 1 2 (by omega) (by omega)).mono ?_
 rintro e v13 ⟨Aa0, na0, ca0, Ab0, nb0, cb0, rfl, za0, zb0, hb1⟩
 replace x_p := x_p.keep hb1
 replace x_m := x_m.keep hb1
 replace x_d := x_d.keep hb1
 replace hT := hT.keep hb1
 replace z3 := z3.keep hb1
 replace z4 := z4.keep hb1
 replace z5 := z5.keep hb1
 replace z6 := z6.keep hb1
 replace z7 := z7.keep hb1
 replace z8 := z8.keep hb1
 replace hb := bthen hb hb1
 clear hb1
 clear q_p0 f_p0 q_p1 f_p1 q_p2 f_p2 q_p3 f_p3 q_p4 f_p4; obtain ⟨q_p0, f_p0, q_p1, f_p1, q_p2, f_p2, q_p3, f_p3, q_p4, f_p4⟩ := x_p.al
 clear q_m0 f_m0 q_m1 f_m1 q_m2 f_m2 q_m3 f_m3 q_m4 f_m4; obtain ⟨q_m0, f_m0, q_m1, f_m1, q_m2, f_m2, q_m3, f_m3, q_m4, f_m4⟩ := x_m.al
 clear q_d0 f_d0 q_d1 f_d1 q_d2 f_d2 q_d3 f_d3 q_d4 f_d4; obtain ⟨q_d0, f_d0, q_d1, f_d1, q_d2, f_d2, q_d3, f_d3, q_d4, f_d4⟩ := x_d.al
 go_wp2_with fail
 with_reducible refine (made_any (-3) 3 2 (by omega) (by omega)).mono ?_
 rintro e v14 ⟨Aa1, na1, ca1, Ab1, nb1, cb1, rfl, za1, zb1, hb1⟩
 replace x_p := x_p.keep hb1
 replace x_m := x_m.keep hb1
 replace x_d := x_d.keep hb1
 replace hT := hT.keep hb1
 replace z3 := z3.keep hb1
 replace z4 := z4.keep hb1
 replace z5 := z5.keep hb1
 replace z6 := z6.keep hb1
 replace z7 := z7.keep hb1
 replace z8 := z8.keep hb1
 replace za0 := za0.keep hb1
 replace zb0 := zb0.keep hb1
 replace hb := bthen hb hb1
 clear hb1
 clear q_p0 f_p0 q_p1 f_p1 q_p2 f_p2 q_p3 f_p3 q_p4 f_p4; obtain ⟨q_p0, f_p0, q_p1, f_p1, q_p2, f_p2, q_p3, f_p3, q_p4, f_p4⟩ := x_p.al
 clear q_m0 f_m0 q_m1 f_m1 q_m2 f_m2 q_m3 f_m3 q_m4 f_m4; obtain ⟨q_m0, f_m0, q_m1, f_m1, q_m2, f_m2, q_m3, f_m3, q_m4, f_m4⟩ := x_m.al
 clear q_d0 f_d0 q_d1 f_d1 q_d2 f_d2 q_d3 f_d3 q_d4 f_d4; obtain ⟨q_d0, f_d0, q_d1, f_d1, q_d2, f_d2, q_d3, f_d3, q_d4, f_d4⟩ := x_d.al
 go_wp2_with fail
 with_reducible refine (LDiv_zero za0.zr zb0.zr za1.zr zb1.zr (by omega) (by omega) (by omega) (by omega) (by omega) (by omega) (by omega)).mono ?_
 rintro e v15 ⟨rfl, hb1⟩
 replace x_p := x_p.keep hb1
 replace x_m := x_m.keep hb1
 replace x_d := x_d.keep hb1
 replace hT := hT.keep hb1
 replace z3 := z3.keep hb1
 replace z4 := z4.keep hb1
 replace z5 := z5.keep hb1
 replace z6 := z6.keep hb1
 replace z7 := z7.keep hb1
 replace z8 := z8.keep hb1
 replace za0 := za0.keep hb1
 replace zb0 := zb0.keep hb1
 replace za1 := za1.keep hb1
 replace zb1 := zb1.keep hb1
 replace hb := bthen hb hb1
 clear hb1
 clear q_p0 f_p0 q_p1 f_p1 q_p2 f_p2 q_p3 f_p3 q_p4 f_p4; obtain ⟨q_p0, f_p0, q_p1, f_p1, q_p2, f_p2, q_p3, f_p3, q_p4, f_p4⟩ := x_p.al
 clear q_m0 f_m0 q_m1 f_m1 q_m2 f_m2 q_m3 f_m3 q_m4 f_m4; obtain ⟨q_m0, f_m0, q_m1, f_m1, q_m2, f_m2, q_m3, f_m3, q_m4, f_m4⟩ := x_m.al
 clear q_d0 f_d0 q_d1 f_d1 q_d2 f_d2 q_d3 f_d3 q_d4 f_d4; obtain ⟨q_d0, f_d0, q_d1, f_d1, q_d2, f_d2, q_d3, f_d3, q_d4, f_d4⟩ := x_d.al
 clear za0 zb0 za1 zb1
 have y_p := (x_p.alloc (.cells #[.bool false, .slice none 0 0, .bool false, .slice none 0 0, .int .i64 0] 26)); have yq_p0 := y_p.c0; have yq_p1 := y_p.c1; have yq_p2 := y_p.c2; have yq_p3 := y_p.c3; have yq_p4 := y_p.c4
 have y_m := (x_m.alloc (.cells #[.bool false, .slice none 0 0, .bool false, .slice none 0 0, .int .i64 0] 26)); have yq_m0 := y_m.c0; have yq_m1 := y_m.c1; have yq_m2 := y_m.c2; have yq_m3 := y_m.c3; have yq_m4 := y_m.c4
 have y_d := (x_d.alloc (.cells #[.bool false, .slice none 0 0, .bool false, .slice none 0 0, .int .i64 0] 26)); have yq_d0 := y_d.c0; have yq_d1 := y_d.c1; have yq_d2 := y_d.c2; have yq_d3 := y_d.c3; have yq_d4 := y_d.c4
 go_wp2_with fail
 clear y_p yq_p0 yq_p1 yq_p2 yq_p3 yq_p4 y_m yq_m0 yq_m1 yq_m2 yq_m3 yq_m4 y_d yq_d0 yq_d1 yq_d2 yq_d3 yq_d4
 have hb1 := below_alloc v15 (.cells #[.bool false, .slice none 0 0, .bool false, .slice none 0 0, .int .i64 0] 26)
 have l_p_n := x_p.lt
 have l_m_n := x_m.lt
 have l_d_n := x_d.lt
 have x_n := Lx.new v15 false none 0 0 false none 0 0 0
 have e_n : w.heap.size ≤ v15.heap.size := hb.size
 clear q_p0 f_p0 q_p1 f_p1 q_p2 f_p2 q_p3 f_p3 q_p4 f_p4 q_m0 f_m0 q_m1 f_m1 q_m2 f_m2 q_m3 f_m3 q_m4 f_m4 q_d0 f_d0 q_d1 f_d1 q_d2 f_d2 q_d3 f_d3 q_d4 f_d4
 replace x_p := x_p.keep hb1
 replace x_m := x_m.keep hb1
 replace x_d := x_d.keep hb1
 replace hT := hT.keep hb1
 replace z3 := z3.keep hb1
 replace z4 := z4.keep hb1
 replace z5 := z5.keep hb1
 replace z6 := z6.keep hb1
 replace z7 := z7.keep hb1
 replace z8 := z8.keep hb1
 replace hb := bthen hb hb1
 clear hb1
 generalize v15.alloc (.cells #[.bool false, .slice none 0 0, .bool false, .slice none 0 0, .int .i64 0] 26) = v16 at *
 obtain ⟨q_p0, f_p0, q_p1, f_p1, q_p2, f_p2, q_p3, f_p3, q_p4, f_p4⟩ := x_p.al
 obtain ⟨q_m0, f_m0, q_m1, f_m1, q_m2, f_m2, q_m3, f_m3, q_m4, f_m4⟩ := x_m.al
 obtain ⟨q_d0, f_d0, q_d1, f_d1, q_d2, f_d2, q_d3, f_d3, q_d4, f_d4⟩ := x_d.al
 obtain ⟨q_n0, f_n0, q_n1, f_n1, q_n2, f_n2, q_n3, f_n3, q_n4, f_n4⟩ := x_n.al
 skip
 with_reducible refine (ZText_any z3.zr (by omega)).mono ?_
 rintro e v17 ⟨rfl, hb1⟩
 replace x_p := x_p.keep hb1
 replace x_m := x_m.keep hb1
 replace x_d := x_d.keep hb1
 replace x_n := x_n.keep hb1
 replace hT := hT.keep hb1
 replace z3 := z3.keep hb1
 replace z4 := z4.keep hb1
 replace z5 := z5.keep hb1
 replace z6 := z6.keep hb1
 replace z7 := z7.keep hb1
 replace z8 := z8.keep hb1
 replace hb := bthen hb hb1
 clear hb1
 clear q_p0 f_p0 q_p1 f_p1 q_p2 f_p2 q_p3 f_p3 q_p4 f_p4; obtain ⟨q_p0, f_p0, q_p1, f_p1, q_p2, f_p2, q_p3, f_p3, q_p4, f_p4⟩ := x_p.al
 clear q_m0 f_m0 q_m1 f_m1 q_m2 f_m2 q_m3 f_m3 q_m4 f_m4; obtain ⟨q_m0, f_m0, q_m1, f_m1, q_m2, f_m2, q_m3, f_m3, q_m4, f_m4⟩ := x_m.al
 clear q_d0 f_d0 q_d1 f_d1 q_d2 f_d2 q_d3 f_d3 q_d4 f_d4; obtain ⟨q_d0, f_d0, q_d1, f_d1, q_d2, f_d2, q_d3, f_d3, q_d4, f_d4⟩ := x_d.al
 clear q_n0 f_n0 q_n1 f_n1 q_n2 f_n2 q_n3 f_n3 q_n4 f_n4; obtain ⟨q_n0, f_n0, q_n1, f_n1, q_n2, f_n2, q_n3, f_n3, q_n4, f_n4⟩ := x_n.al
 rw [tx_1]
 go_wp2_with fail
 with_reducible refine (ZText_any z4.zr (by omega)).mono ?_
 rintro e v18 ⟨rfl, hb1⟩
 replace x_p := x_p.keep hb1
 replace x_m := x_m.keep hb1
 replace x_d := x_d.keep hb1
 replace x_n := x_n.keep hb1
 replace hT := hT.keep hb1
 replace z3 := z3.keep hb1
 replace z4 := z4.keep hb1
 replace z5 := z5.keep hb1
 replace z6 := z6.keep hb1
 replace z7 := z7.keep hb1
 replace z8 := z8.keep hb1
 replace hb := bthen hb hb1
 clear hb1
 clear q_p0 f_p0 q_p1 f_p1 q_p2 f_p2 q_p3 f_p3 q_p4 f_p4; obtain ⟨q_p0, f_p0, q_p1, f_p1, q_p2, f_p2, q_p3, f_p3, q_p4, f_p4⟩ := x_p.al
 clear q_m0 f_m0 q_m1 f_m1 q_m2 f_m2 q_m3 f_m3 q_m4 f_m4; obtain ⟨q_m0, f_m0, q_m1, f_m1, q_m2, f_m2, q_m3, f_m3, q_m4, f_m4⟩ := x_m.al
 clear q_d0 f_d0 q_d1 f_d1 q_d2 f_d2 q_d3 f_d3 q_d4 f_d4; obtain ⟨q_d0, f_d0, q_d1, f_d1, q_d2, f_d2, q_d3, f_d3, q_d4, f_d4⟩ := x_d.al
 clear q_n0 f_n0 q_n1 f_n1 q_n2 f_n2 q_n3 f_n3 q_n4 f_n4; obtain ⟨q_n0, f_n0, q_n1, f_n1, q_n2, f_n2, q_n3, f_n3, q_n4, f_n4⟩ := x_n.al
 rw [tx_2]
 go_wp2_with fail
 with_reducible refine (ZText_any z5.zr (by omega)).mono ?_
 rintro e v19 ⟨rfl, hb1⟩
 replace x_p := x_p.keep hb1
 replace x_m := x_m.keep hb1
 replace x_d := x_d.keep hb1
 replace x_n := x_n.keep hb1
 replace hT := hT.keep hb1
 replace z3 := z3.keep hb1
 replace z4 := z4.keep hb1
 replace z5 := z5.keep hb1
 replace z6 := z6.keep hb1
 replace z7 := z7.keep hb1
 replace z8 := z8.keep hb1
 replace hb := bthen hb hb1
 clear hb1
 clear q_p0 f_p0 q_p1 f_p1 q_p2 f_p2 q_p3 f_p3 q_p4 f_p4; obtain ⟨q_p0, f_p0, q_p1, f_p1, q_p2, f_p2, q_p3, f_p3, q_p4, f_p4⟩ := x_p.al
 clear q_m0 f_m0 q_m1 f_m1 q_m2 f_m2 q_m3 f_m3 q_m4 f_m4; obtain ⟨q_m0, f_m0, q_m1, f_m1, q_m2, f_m2, q_m3, f_m3, q_m4, f_m4⟩ := x_m.al
 clear q_d0 f_d0 q_d1 f_d1 q_d2 f_d2 q_d3 f_d3 q_d4 f_d4; obtain ⟨q_d0, f_d0, q_d1, f_d1, q_d2, f_d2, q_d3, f_d3, q_d4, f_d4⟩ := x_d.al
 clear q_n0 f_n0 q_n1 f_n1 q_n2 f_n2 q_n3 f_n3 q_n4 f_n4; obtain ⟨q_n0, f_n0, q_n1, f_n1, q_n2, f_n2, q_n3, f_n3, q_n4, f_n4⟩ := x_n.al
 rw [tx_m4]
 go_wp2_with fail
 with_reducible refine (ZText_any z6.zr (by omega)).mono ?_
 rintro e v20 ⟨rfl, hb1⟩
 replace x_p := x_p.keep hb1
 replace x_m := x_m.keep hb1
 replace x_d := x_d.keep hb1
 replace x_n := x_n.keep hb1
 replace hT := hT.keep hb1
 replace z3 := z3.keep hb1
 replace z4 := z4.keep hb1
 replace z5 := z5.keep hb1
 replace z6 := z6.keep hb1
 replace z7 := z7.keep hb1
 replace z8 := z8.keep hb1
 replace hb := bthen hb hb1
 clear hb1
 clear q_p0 f_p0 q_p1 f_p1 q_p2 f_p2 q_p3 f_p3 q_p4 f_p4; obtain ⟨q_p0, f_p0, q_p1, f_p1, q_p2, f_p2, q_p3, f_p3, q_p4, f_p4⟩ := x_p.al
 clear q_m0 f_m0 q_m1 f_m1 q_m2 f_m2 q_m3 f_m3 q_m4 f_m4; obtain ⟨q_m0, f_m0, q_m1, f_m1, q_m2, f_m2, q_m3, f_m3, q_m4, f_m4⟩ := x_m.al
 clear q_d0 f_d0 q_d1 f_d1 q_d2 f_d2 q_d3 f_d3 q_d4 f_d4; obtain ⟨q_d0, f_d0, q_d1, f_d1, q_d2, f_d2, q_d3, f_d3, q_d4, f_d4⟩ := x_d.al
 clear q_n0 f_n0 q_n1 f_n1 q_n2 f_n2 q_n3 f_n3 q_n4 f_n4; obtain ⟨q_n0, f_n0, q_n1, f_n1, q_n2, f_n2, q_n3, f_n3, q_n4, f_n4⟩ := x_n.al
 rw [tx_8]
 go_wp2_with fail
 with_reducible refine (ZText_any z7.zr (by omega)).mono ?_
 rintro e v21 ⟨rfl, hb1⟩
 replace x_p := x_p.keep hb1
 replace x_m := x_m.keep hb1
 replace x_d := x_d.keep hb1
 replace x_n := x_n.keep hb1
 replace hT := hT.keep hb1
 replace z3 := z3.keep hb1
 replace z4 := z4.keep hb1
 replace z5 := z5.keep hb1
 replace z6 := z6.keep hb1
 replace z7 := z7.keep hb1
 replace z8 := z8.keep hb1
 replace hb := bthen hb hb1
 clear hb1
 clear q_p0 f_p0 q_p1 f_p1 q_p2 f_p2 q_p3 f_p3 q_p4 f_p4; obtain ⟨q_p0, f_p0, q_p1, f_p1, q_p2, f_p2, q_p3, f_p3, q_p4, f_p4⟩ := x_p.al
 clear q_m0 f_m0 q_m1 f_m1 q_m2 f_m2 q_m3 f_m3 q_m4 f_m4; obtain ⟨q_m0, f_m0, q_m1, f_m1, q_m2, f_m2, q_m3, f_m3, q_m4, f_m4⟩ := x_m.al
 clear q_d0 f_d0 q_d1 f_d1 q_d2 f_d2 q_d3 f_d3 q_d4 f_d4; obtain ⟨q_d0, f_d0, q_d1, f_d1, q_d2, f_d2, q_d3, f_d3, q_d4, f_d4⟩ := x_d.al
 clear q_n0 f_n0 q_n1 f_n1 q_n2 f_n2 q_n3 f_n3 q_n4 f_n4; obtain ⟨q_n0, f_n0, q_n1, f_n1, q_n2, f_n2, q_n3, f_n3, q_n4, f_n4⟩ := x_n.al
 rw [tx_1]
 go_wp2_with fail
 with_reducible refine (ZText_any z8.zr (by omega)).mono ?_
 rintro e v22 ⟨rfl, hb1⟩
 replace x_p := x_p.keep hb1
 replace x_m := x_m.keep hb1
 replace x_d := x_d.keep hb1
 replace x_n := x_n.keep hb1
 replace hT := hT.keep hb1
 replace z3 := z3.keep hb1
 replace z4 := z4.keep hb1
 replace z5 := z5.keep hb1
 replace z6 := z6.keep hb1
 replace z7 := z7.keep hb1
 replace z8 := z8.keep hb1
 replace hb := bthen hb hb1
 clear hb1
 clear q_p0 f_p0 q_p1 f_p1 q_p2 f_p2 q_p3 f_p3 q_p4 f_p4; obtain ⟨q_p0, f_p0, q_p1, f_p1, q_p2, f_p2, q_p3, f_p3, q_p4, f_p4⟩ := x_p.al
 clear q_m0 f_m0 q_m1 f_m1 q_m2 f_m2 q_m3 f_m3 q_m4 f_m4; obtain ⟨q_m0, f_m0, q_m1, f_m1, q_m2, f_m2, q_m3, f_m3, q_m4, f_m4⟩ := x_m.al
 clear q_d0 f_d0 q_d1 f_d1 q_d2 f_d2 q_d3 f_d3 q_d4 f_d4; obtain ⟨q_d0, f_d0, q_d1, f_d1, q_d2, f_d2, q_d3, f_d3, q_d4, f_d4⟩ := x_d.al
 clear q_n0 f_n0 q_n1 f_n1 q_n2 f_n2 q_n3 f_n3 q_n4 f_n4; obtain ⟨q_n0, f_n0, q_n1, f_n1, q_n2, f_n2, q_n3, f_n3, q_n4, f_n4⟩ := x_n.al
 rw [tx_2]
 go_wp2
 go_ret
 exact ⟨rfl, hb⟩

end Go.Proofs.YtiigacddjihokaaGreatDoor
