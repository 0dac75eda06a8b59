/-
 point: shown.
-/
import Derived.Test.YtdonaominffpnaaGreatDoorPof
namespace Go.Proofs.YtdonaominffpnaaGreatDoor
set_option maxRecDepth 100000
set_option maxHeartbeats 4000000
set_option linter.unusedVariables false
open Go.RowKit
variable {b b2 b3 b4 : Bool} {A A2 A3 A4 : Option Addr} {n c n2 c2 n3 c3 n4 c4 j j2 : Nat} {X Y U V q e : Int} {w : World}
theorem Pshown_any (hT : Tab w) :
  Calls Tryz.prog 8 #[] w (fun e w' => e = .returned (.bool true) ∧ Below w.heap.size w w') := by
 have HL3 := Lib.hid (fun w (h : Tab w) => Lk_3 h)
 have HL1 := Lib.hid (fun w (h : Tab w) => Lk_1 h)
 have HLE := Lib.hid (fun w (h : Tab w) => Lk_e h)
 have HO3 := Lib.hid (od_of 3)
 have HP3 := Lib.hid pw_3
 have hb := Below.refl w.heap.size w
 go_enter Tryz.func8, Tryz.ntmps8
 go_wp2_with fail
 with_reducible refine (ZOf_any 3 (by omega) (by omega)).mono ?_
 rintro e v1 ⟨A1, n1, c1, rfl, z1, hb1⟩
 obtain ⟨hT, hb⟩ := mv2 hb1 hT hb
 clear hb1
 go_wp2_with fail
 with_reducible refine (DOf_any z1.zr hT 2 (by omega) (by omega)).mono ?_
 rintro e v2 ⟨A3, n3, c3, rfl, z3, hb1⟩
 obtain ⟨hT, z1, hb⟩ := mv3 hb1 hT z1 hb
 clear hb1
 rw [HO3.out.1, HO3.out.2] at *
 go_wp2_with fail
 with_reducible refine (Of_whole (by omega) (by omega) z3 hT).mono ?_
 rintro e v3 ⟨rfl, hb1⟩
 obtain ⟨hT, z3, hb⟩ := mv3 hb1 hT z3 hb
 clear hb1
 rw [HP3.out]
 go_wp2_with fail
 with_reducible refine (First_yes 0 (by omega)).mono ?_
 rintro e v4 ⟨rfl, hb1⟩
 obtain ⟨hT, hb⟩ := mv2 hb1 hT hb
 clear hb1
 rw [show ((((0 : Int) + 1023).toNat * 4503599627370496 : Nat) : Int) = 4607182418800017408 from rfl]
 go_wp2_with fail
 obtain ⟨q3, S3, M3, k3⟩ := HL3.out _ hT
 skip
 with_reducible refine (k3).mono ?_
 rintro e v5 ⟨A11, n11, c11, A12, n12, c12, A13, n13, c13, A14, n14, c14, rfl, z11, z12, z13, z14, hb1⟩
 obtain ⟨hT, hb⟩ := mv2 hb1 hT hb
 clear hb1
 go_wp2_with fail
 have e_a : w.heap.size ≤ v5.heap.size := hb.size
 refine al1c fun v6 hb1 x_a => ?_
 replace x_a := Ox.of x_a
 obtain ⟨hT, z11, z12, z13, z14, hb⟩ := mv6 hb1 hT z11 z12 z13 z14 hb
 clear hb1
 have q_a := x_a.al
 skip
 with_reducible refine (HL1.out _ hT).mono ?_
 rintro e v7 ⟨A15, n15, c15, A16, n16, c16, A17, n17, c17, A18, n18, c18, rfl, z15, z16, z17, z18, hb1⟩
 obtain ⟨x_a, hT, z11, z12, z13, z14, hb⟩ := mv7 hb1 x_a hT z11 z12 z13 z14 hb
 clear hb1
 replace q_a := x_a.al
 have y_a := ((x_a.alloc (.cells #[.bool (ngB 0), .slice A15 n15 c15, .bool (ngB 0), .slice A16 n16 c16, .int .i64 300, .int .i64 0, .int .i64 0, .int .i64 0, .bool (ngB 0), .slice A17 n17 c17, .bool (ngB 0), .slice A18 n18 c18, .bool true] 38))).al
 go_wp2_with fail
 clear y_a
 have l_a_b := x_a.lt
 have e_b : w.heap.size ≤ v7.heap.size := hb.size
 clear q_a
 refine al1c fun v8 hb1 x_b => ?_
 replace x_b := Ox.of x_b
 obtain ⟨x_a, hT, z11, z12, z13, z14, z15, z16, z17⟩ := mv9 hb1 x_a hT z11 z12 z13 z14 z15 z16 z17
 obtain ⟨z18, hb⟩ := mv2 hb1 z18 hb
 clear hb1
 have q_a := x_a.al
 have q_b := x_b.al
 obtain ⟨P4, R4, q4, S4, L4, M4, k4⟩ := HLE.out _ hT
 skip
 with_reducible refine (k4).mono ?_
 rintro e v9 ⟨A19, n19, c19, A20, n20, c20, A21, n21, c21, A22, n22, c22, rfl, z19, z20, z21, z22, hb1⟩
 obtain ⟨x_a, x_b, hT, z11, z12, z13, z14, z15, z16⟩ := mv9 hb1 x_a x_b hT z11 z12 z13 z14 z15 z16
 obtain ⟨z17, z18, hb⟩ := mv3 hb1 z17 z18 hb
 clear hb1
 replace q_a := x_a.al
 replace q_b := x_b.al
 have y_a := ((x_a.alloc (.cells #[.bool (ngB P4), .slice A19 n19 c19, .bool (ngB R4), .slice A20 n20 c20, .int .i64 q4, .int .i64 1, .int .i64 1, .int .i64 S4, .bool (ngB L4), .slice A21 n21 c21, .bool (ngB M4), .slice A22 n22 c22, .bool false] 38))).al
 have y_b := ((x_b.alloc (.cells #[.bool (ngB P4), .slice A19 n19 c19, .bool (ngB R4), .slice A20 n20 c20, .int .i64 q4, .int .i64 1, .int .i64 1, .int .i64 S4, .bool (ngB L4), .slice A21 n21 c21, .bool (ngB M4), .slice A22 n22 c22, .bool false] 38))).al
 go_wp2_with fail
 clear y_a y_b
 have l_a_c := x_a.lt
 have l_b_c := x_b.lt
 have e_c : w.heap.size ≤ v9.heap.size := hb.size
 clear q_a q_b
 refine al1c fun v10 hb1 x_c => ?_
 replace x_c := Ox.of x_c
 obtain ⟨x_a, x_b, hT, z11, z12, z13, z14, z15, z16⟩ := mv9 hb1 x_a x_b hT z11 z12 z13 z14 z15 z16
 obtain ⟨z17, z18, z19, z20, z21, z22, hb⟩ := mv7 hb1 z17 z18 z19 z20 z21 z22 hb
 clear hb1
 have q_a := x_a.al
 have q_b := x_b.al
 have q_c := x_c.al
 skip
 with_reducible refine (ZSign_any z13.zr (by omega)).mono ?_
 rintro e v11 ⟨rfl, hb1⟩
 obtain ⟨x_a, x_b, x_c, hT, z11, z12, z13, z14, z15⟩ := mv9 hb1 x_a x_b x_c hT z11 z12 z13 z14 z15
 obtain ⟨z16, z17, z18, z19, z20, z21, z22, hb⟩ := mv8 hb1 z16 z17 z18 z19 z20 z21 z22 hb
 clear hb1
 replace q_a := x_a.al
 replace q_b := x_b.al
 replace q_c := x_c.al
 rw [show sgnI 0 = 0 from rfl]
 go_wp2
 go_ret
 exact ⟨rfl, hb⟩
end Go.Proofs.YtdonaominffpnaaGreatDoor
