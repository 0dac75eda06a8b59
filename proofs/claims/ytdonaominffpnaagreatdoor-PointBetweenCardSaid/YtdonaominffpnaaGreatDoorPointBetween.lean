/-
 The law PointBetween, as a call.
-/
import Derived.Test.YtdonaominffpnaaGreatDoorPshow
import Derived.Test.YtdonaominffpnaaGreatDoorLpart
namespace Go.Proofs.YtdonaominffpnaaGreatDoor
set_option maxRecDepth 100000
set_option maxHeartbeats 4000000
set_option linter.unusedVariables false
open Go.RowKit
variable {b b2 b3 b4 : Bool} {A A2 A3 A4 : Option Addr} {n c n2 c2 n3 c3 n4 c4 j j2 : Nat} {X Y U V q e : Int} {w : World}
instance {v w : World} {A : Option Addr} {n c : Nat} {l : List Int} : Mv (Rd v v.heap.size A n c l) v w (Rd w w.heap.size A n c l) := ⟨fun h hb => h.go hb⟩
theorem i64_and127 (n : Int) : bits .and .i64 n 127 = n % 128 := by
 have h127 : (BitVec.ofInt 64 127).toNat = 2 ^ 7 - 1 := by decide
 have key : (BitVec.ofInt 64 n &&& BitVec.ofInt 64 127).toNat = (n % ((2 ^ 64 : Nat) : Int)).toNat % 2 ^ 7 := by
  rw [BitVec.toNat_and, BitVec.toNat_ofInt, h127, Nat.and_two_pow_sub_one_eq_mod]
 show IntKind.i64.wrap ((BitVec.ofInt 64 n &&& BitVec.ofInt 64 127).toNat : Nat) = n % 128
 rw [key, IntKind.wrap_i64]
 omega
theorem i64_and255 (n : Int) : bits .and .i64 n 255 = n % 256 := by
 have h255 : (BitVec.ofInt 64 255).toNat = 2 ^ 8 - 1 := by decide
 have key : (BitVec.ofInt 64 n &&& BitVec.ofInt 64 255).toNat = (n % ((2 ^ 64 : Nat) : Int)).toNat % 2 ^ 8 := by
  rw [BitVec.toNat_and, BitVec.toNat_ofInt, h255, Nat.and_two_pow_sub_one_eq_mod]
 show IntKind.i64.wrap ((BitVec.ofInt 64 n &&& BitVec.ofInt 64 255).toNat : Nat) = n % 256
 rw [key, IntKind.wrap_i64]
 omega
theorem PointBetween_any {b b2 : Bool} {A A2 : Option Addr} {n c n2 c2 : Nat} {q : Int} {l0 l1 : List Int} {w : World} (hT : Tab w) (g0 : Rd w w.heap.size A n c l0) (g1 : Rd w w.heap.size A2 n2 c2 l1) (s0 : Int) (hs0 : -9223372036854775808 ≤ s0 ∧ s0 ≤ 9223372036854775807) (k0 : Int) (hk0 : -9223372036854775808 ≤ k0 ∧ k0 ≤ 9223372036854775807) :
  Calls Tryz.prog 5 #[.agg #[.bool b, .slice A n c, .bool b2, .slice A2 n2 c2, .int .i64 q], .int .i64 s0, .int .i64 k0] w fun e w' => e = .returned (.bool true) ∧ Below w.heap.size w w' := by
 obtain ⟨s, hs, hs1⟩ : ∃ s : Nat, bits .and .i64 s0 127 = (s : Int) ∧ s ≤ 127 := ⟨(s0 % 128).toNat, by rw [i64_and127]; omega, by omega⟩
 obtain ⟨κ, hκ, hκ1⟩ : ∃ s : Nat, bits .and .i64 k0 255 = (s : Int) ∧ s ≤ 255 := ⟨(k0 % 256).toNat, by rw [i64_and255]; omega, by omega⟩
 obtain ⟨Q, hQ, hQ1⟩ : ∃ s : Int, bits .and .i64 q 255 = s ∧ 0 ≤ s ∧ s ≤ 255 := ⟨q % 256, i64_and255 q, by omega⟩
 clear hs0 hk0
 go_enter Tryz.func5, Tryz.ntmps5
 go_wp2_with fail
 refine al1c fun v1 hb x_b => ?_
 replace x_b := Lx.of x_b
 obtain ⟨hT, g0, g1⟩ := mv3 hb hT g0 g1
 have q_b := x_b.al
 skip
 with_reducible refine (Pshown_any hT).mono ?_
 rintro e v2 ⟨rfl, hb1⟩
 obtain ⟨x_b, hT, g0, g1, hb⟩ := mv5 hb1 x_b hT g0 g1 hb
 clear hb1
 replace q_b := x_b.al
 go_wp2_with fail
 with_reducible refine (Lim_at g0 2 2 rfl (by omega)).mono ?_
 rintro e v3 ⟨E1, m1, k1, rfl, p1, h1, hb1⟩
 obtain ⟨x_b, g0, g1, hb⟩ := mv4 hb1 x_b g0 g1 hb
 clear hb1
 replace q_b := x_b.al
 obtain ⟨X, zX⟩ : ∃ X, Zr v3 b E1 m1 k1 X 2 := ⟨_, _, p1, rfl, h1⟩
 clear p1 h1
 go_wp2_with fail
 clear q_b
 refine x_b.stac fun v4 hs hx => ?_
 obtain ⟨g1, zX, hb⟩ := ms3 hs ⟨trivial, trivial, by omega⟩ g1 zX hb
 replace x_b := hx; clear hx hs
 have q_b := x_b.al
 skip
 with_reducible refine (Lim_at g1 2 2 rfl (by omega)).mono ?_
 rintro e v5 ⟨E2, m2, k2, rfl, p2, h2, hb1⟩
 obtain ⟨x_b, g1, zX, hb⟩ := mv4 hb1 x_b g1 zX hb
 clear hb1
 replace q_b := x_b.al
 obtain ⟨Y, zY⟩ : ∃ Y, Zr v5 b2 E2 m2 k2 Y 2 := ⟨_, _, p2, rfl, h2⟩
 clear p2 h2
 go_wp2_with fail
 clear q_b
 refine x_b.stfc fun v6 hs hx => ?_
 obtain ⟨zX, zY, hb⟩ := ms3 hs ⟨trivial, trivial, by omega⟩ zX zY hb
 replace x_b := hx; clear hx hs
 have q_b := x_b.al
 have hc := sgn_le (X := X) (Y := Y)
 obtain ⟨C, hC⟩ : ∃ C, sgnI (X - Y) = C := ⟨_, rfl⟩
 rw [hC] at hc; have HC := Lib.hid hC; clear hC
 skip
 with_reducible refine (ZCmp_any zX zY (by omega) (by omega)).mono ?_
 rintro e v7 ⟨rfl, hb1⟩
 obtain ⟨x_b, zX, zY, hb⟩ := mv4 hb1 x_b zX zY hb
 clear hb1
 replace q_b := x_b.al
 rw [HC.out]
 by_cases hC : C ≤ 0
 focus
  go_upto_region 7 with fail
  obtain ⟨d1, F1, i1, j1, d2, F2, i2, j2, X1, Y1, y_b, y1, y2, hXY⟩ : ∃ d1 F1 i1 j1 d2 F2 i2 j2 X1 Y1, Lx v7 w.heap.size d1 F1 i1 j1 d2 F2 i2 j2 Q ∧ Zr v7 d1 F1 i1 j1 X1 2 ∧ Zr v7 d2 F2 i2 j2 Y1 2 ∧ X1 ≤ Y1 := ⟨_, _, _, _, _, _, _, _, _, _, x_b, zX, zY, hc.1 hC⟩
  clear hc hC zX zY q_b x_b
  generalize v7 = v at *
 rotate_left
 focus
  go_upto_region 7 with fail
  clear q_b
  refine x_b.ste fun v8 hs hx => ?_
  obtain ⟨zX, zY, hb⟩ := ms3 hs ⟨trivial, trivial, by omega⟩ zX zY hb
  replace x_b := hx; clear hx hs
  have q_b := x_b.al
  obtain ⟨d1, F1, i1, j1, d2, F2, i2, j2, X1, Y1, y_b, y1, y2, hXY⟩ : ∃ d1 F1 i1 j1 d2 F2 i2 j2 X1 Y1, Lx v8 w.heap.size d1 F1 i1 j1 d2 F2 i2 j2 Q ∧ Zr v8 d1 F1 i1 j1 X1 2 ∧ Zr v8 d2 F2 i2 j2 Y1 2 ∧ X1 ≤ Y1 := ⟨_, _, _, _, _, _, _, _, _, _, x_b, zY, zX, by have := mt hc.2 (by omega); omega⟩
  clear hc hC zX zY q_b x_b
  generalize v8 = v at *
 all_goals
  have x_b := y_b; clear y_b
  have q_b := x_b.al
  have ga := fun x (h : X1 ≤ x) (h2 : x ≤ Y1) => ga_in (lo := X1) (hi := Y1) (s := s) h h2
  obtain ⟨L, hL⟩ : ∃ L, gaL X1 Y1 s = L := ⟨_, rfl⟩
  obtain ⟨M, hM⟩ : ∃ L, gaM X1 Y1 s = L := ⟨_, rfl⟩
  obtain ⟨T, hT⟩ : ∃ T : Int, 2 ^ s = T := ⟨_, rfl⟩
  have hT0 : 0 < T := by rw [← hT]; exact Int.pow_pos (by omega)
  have hg := fun w (h : Zr w d1 F1 i1 j1 X1 2) (h2 : Zr w d2 F2 i2 j2 Y1 2) => Gap_yes (q := Q) (h.wide (j := 8) (by omega)) (h2.wide (j := 8) (by omega)) ⟨by omega, by omega, hXY⟩ s (by omega)
  rw [hL, hM] at ga hg; rw [hT] at ga
  have HG := Lib.hid hg; have HGA := Lib.hid ga; clear hg ga hL hM
  have HSC : Hid (sc (s : Int) = s ∧ 2 ^ s = T) := Lib.hid ⟨sc_nat (by omega), hT⟩; clear hT
  have hsi : (s : Int) ≤ 127 := by omega
  go_wp2_with fail
  with_reducible refine (HG.out _ y1 y2).mono ?_
  rintro e v201 ⟨A3, n3, c3, A4, n4, c4, rfl, z3, z4, hb1⟩
  obtain ⟨x_b, y1, y2, hb⟩ := mv4 hb1 x_b y1 y2 hb
  clear hb1
  replace q_b := x_b.al
  have y_b := (((x_b.alloc (.cells #[.bool (ngB L), .slice A3 n3 c3] 24)).alloc (.cells #[.bool (ngB M), .slice A4 n4 c4] 24))).al
  go_wp2_with fail
  clear y_b
  have l_b_le := x_b.lt
  have e_le : w.heap.size ≤ v201.heap.size := hb.size
  clear q_b
  refine al2c fun v202 hb1 x_le x_mo => ?_
  replace x_le := Bx.of x_le; replace x_mo := Bx.of x_mo
  obtain ⟨x_b, y1, y2, z3, z4, hb⟩ := mv6 hb1 x_b y1 y2 z3 z4 hb
  clear hb1
  have q_b := x_b.al
  have q_le := x_le.al
  have q_mo := x_mo.al
  clear q_le
  clear q_mo
  obtain ⟨V, hV⟩ : ∃ V, Y1 - X1 = V := ⟨_, rfl⟩
  obtain ⟨U, hU⟩ : ∃ U, V * (κ : Int) = U := ⟨_, rfl⟩
  obtain ⟨P, hP⟩ : ∃ P, U / 255 = P := ⟨_, rfl⟩
  obtain ⟨Z, hZ⟩ : ∃ Z, X1 + P = Z := ⟨_, rfl⟩
  obtain ⟨R, hR⟩ : ∃ R, Z % T = R := ⟨_, rfl⟩
  have hZZ : X1 ≤ Z ∧ Z ≤ Y1 := by have a := Int.mul_le_mul_of_nonneg_left (show (κ : Int) ≤ 255 by omega) (show 0 ≤ V by omega); have c := Int.mul_nonneg (show 0 ≤ V by omega) (show (0 : Int) ≤ κ by omega); omega
  have hRR : 0 ≤ R ∧ R < T := by rw [← hR]; exact ⟨Int.emod_nonneg _ (by omega), Int.emod_lt_of_pos _ hT0⟩
  obtain ⟨D, hD⟩ : ∃ D, min R (T - R) = D := ⟨_, rfl⟩
  have hga := HGA.out Z hZZ.1 hZZ.2
  have hds : dsI Z T = D := by unfold dsI; rw [hR]; exact hD
  rw [hds] at hga; clear hds HGA hXY
  have HX : Hid (V * (κ : Int) = U ∧ U / 255 = P ∧ X1 + P = Z ∧ Z % T = R ∧ Y1 - X1 = V) := Lib.hid ⟨hU, hP, hZ, hR, hV⟩
  clear hU hP hZ hR hV hZZ
  skip
  with_reducible refine (ZSub_any y2 y1 3 (by omega) (by omega) (by omega)).mono ?_
  rintro e v203 ⟨A5, n5, c5, rfl, z5, hb1⟩
  obtain ⟨x_b, x_le, x_mo, y1, y2, z3, z4, hb⟩ := mv8 hb1 x_b x_le x_mo y1 y2 z3 z4 hb
  clear hb1
  replace q_b := x_b.al
  rw [HX.out.2.2.2.2] at z5 ⊢
  go_wp2_with fail
  with_reducible refine (ZOf_any (κ : Int) (by omega) (by omega)).mono ?_
  rintro e v204 ⟨A6, n6, c6, rfl, z6, hb1⟩
  obtain ⟨x_b, x_le, x_mo, y1, z3, z4, z5, hb⟩ := mv8 hb1 x_b x_le x_mo y1 z3 z4 z5 hb
  clear hb1
  replace q_b := x_b.al
  go_wp2_with fail
  with_reducible refine (ZMul_any z5.zr z6.zr 4 (by omega) (by omega)).mono ?_
  rintro e v205 ⟨A7, n7, c7, rfl, z7, hb1⟩
  obtain ⟨x_b, x_le, x_mo, y1, z3, z4, z5, z6, hb⟩ := mv9 hb1 x_b x_le x_mo y1 z3 z4 z5 z6 hb
  clear hb1
  replace q_b := x_b.al
  rw [HX.out.1] at z7 ⊢
  go_wp2_with fail
  with_reducible refine (ZOf_any 255 (by omega) (by omega)).mono ?_
  rintro e v206 ⟨A8, n8, c8, rfl, z8, hb1⟩
  obtain ⟨x_b, x_le, x_mo, y1, z3, z4, z7, hb⟩ := mv8 hb1 x_b x_le x_mo y1 z3 z4 z7 hb
  clear hb1
  replace q_b := x_b.al
  go_wp2_with fail
  with_reducible refine (ZDivMod_any z7.zr z8.zr (by omega) 5 (by omega) (by omega) (by omega)).mono ?_
  rintro e v207 ⟨A9, n9, c9, A10, n10, c10, rfl, z9, z10, hb1⟩
  obtain ⟨x_b, x_le, x_mo, y1, z3, z4, z7, z8, hb⟩ := mv9 hb1 x_b x_le x_mo y1 z3 z4 z7 z8 hb
  clear hb1
  replace q_b := x_b.al
  rw [HX.out.2.1] at z9 ⊢
  have y_b := (((x_b.alloc (.cells #[.bool (ngB P), .slice A9 n9 c9] 24)).alloc (.cells #[.bool (ngB (U % 255)), .slice A10 n10 c10] 24))).al
  go_wp2_with fail
  clear y_b
  have l_b_pa := x_b.lt
  have l_le_pa := x_le.lt
  have l_mo_pa := x_mo.lt
  have e_pa : w.heap.size ≤ v207.heap.size := hb.size
  clear q_b
  refine al2c fun v208 hb1 x_pa x_pb => ?_
  replace x_pa := Bx.of x_pa; replace x_pb := Bx.of x_pb
  obtain ⟨x_b, x_le, x_mo, y1, z3, z4, z9, hb⟩ := mv8 hb1 x_b x_le x_mo y1 z3 z4 z9 hb
  clear hb1
  have q_b := x_b.al
  have q_pa := x_pa.al
  have q_pb := x_pb.al
  skip
  with_reducible refine (ZAdd_any y1 z9.zr 6 (by omega) (by omega) (by omega)).mono ?_
  rintro e v209 ⟨A11, n11, c11, rfl, z11, hb1⟩
  obtain ⟨x_b, x_le, x_mo, x_pa, y1, z3, z4, z9, hb⟩ := mv9 hb1 x_b x_le x_mo x_pa y1 z3 z4 z9 hb
  clear hb1
  replace q_b := x_b.al
  replace q_pa := x_pa.al
  rw [HX.out.2.2.1] at z11 ⊢
  go_wp2_with fail
  have l_le_x := x_le.lt
  have l_mo_x := x_mo.lt
  have e_x : w.heap.size ≤ v209.heap.size := hb.size
  refine al1c fun v210 hb1 x_x => ?_
  replace x_x := Bx.of x_x
  obtain ⟨x_le, x_mo, z3, z4, z11, hb⟩ := mv6 hb1 x_le x_mo z3 z4 z11 hb
  clear hb1
  have q_x := x_x.al
  skip
  with_reducible refine (ZOf_any 1 (by omega) (by omega)).mono ?_
  rintro e v211 ⟨A12, n12, c12, rfl, z12, hb1⟩
  obtain ⟨x_le, x_mo, x_x, z3, z4, z11, hb⟩ := mv7 hb1 x_le x_mo x_x z3 z4 z11 hb
  clear hb1
  replace q_x := x_x.al
  go_wp2_with fail
  with_reducible refine (ZShl_any z12.zr (s : Int) 130 (by omega) (by omega)).mono ?_
  rintro e v212 ⟨A13, n13, c13, rfl, z13, hb1⟩
  obtain ⟨x_le, x_mo, x_x, z3, z4, z11, z12, hb⟩ := mv8 hb1 x_le x_mo x_x z3 z4 z11 z12 hb
  clear hb1
  replace q_x := x_x.al
  rw [HSC.out.1, HSC.out.2, Int.one_mul] at z13 ⊢
  have y_x := ((x_x.alloc (.cells #[.bool (ngB T), .slice A13 n13 c13] 24))).al
  go_wp2_with fail
  clear y_x
  have l_le_tu := x_le.lt
  have l_mo_tu := x_mo.lt
  have l_x_tu := x_x.lt
  have e_tu : w.heap.size ≤ v212.heap.size := hb.size
  clear q_x
  refine al1c fun v213 hb1 x_tu => ?_
  replace x_tu := Bx.of x_tu
  obtain ⟨x_le, x_mo, x_x, z3, z4, z11, z13, hb⟩ := mv8 hb1 x_le x_mo x_x z3 z4 z11 z13 hb
  clear hb1
  have q_x := x_x.al
  have q_tu := x_tu.al
  skip
  with_reducible refine (ZDivMod_any z11.zr z13.zr (by omega) 140 (by omega) (by omega) (by omega)).mono ?_
  rintro e v214 ⟨A14, n14, c14, A15, n15, c15, rfl, z14, z15, hb1⟩
  obtain ⟨x_le, x_mo, x_x, x_tu, z3, z4, z11, z13, hb⟩ := mv9 hb1 x_le x_mo x_x x_tu z3 z4 z11 z13 hb
  clear hb1
  replace q_x := x_x.al
  replace q_tu := x_tu.al
  rw [HX.out.2.2.2.1] at z15 ⊢
  obtain ⟨Z9, hZ9⟩ : ∃ R, Z / T = R := ⟨_, rfl⟩
  rw [hZ9]
  clear hZ9
  have y_tu := (((x_tu.alloc (.cells #[.bool (ngB Z9), .slice A14 n14 c14] 24)).alloc (.cells #[.bool (ngB R), .slice A15 n15 c15] 24))).al
  go_upto_region 13 with fail
  clear y_tu
  have l_le_rq := x_le.lt
  have l_mo_rq := x_mo.lt
  have l_tu_rq := x_tu.lt
  have e_rq : w.heap.size ≤ v214.heap.size := hb.size
  clear q_tu
  refine al2 fun v215 hb1 x_rq x_r => ?_
  replace x_rq := Bx.of x_rq; replace x_r := Bx.of x_r
  obtain ⟨x_le, x_mo, x_tu, z3, z4, z13, z15, hb⟩ := mv8 hb1 x_le x_mo x_tu z3 z4 z13 z15 hb
  clear hb1
  have q_tu := x_tu.al
  have q_rq := x_rq.al
  have q_r := x_r.al
  have hc := sgn_le (X := R * 2) (Y := T)
  obtain ⟨C, hC⟩ : ∃ C, sgnI (R * 2 - T) = C := ⟨_, rfl⟩
  rw [hC] at hc; have HC := Lib.hid hC; clear hC
  have HS1 : Hid (R * 2 ^ sc (1 : Int) = R * 2) := Lib.hid rfl
  go_region_held3 (fun w' => w'.cell? ⟨v214.heap.size + 1, 0, none⟩ = some (.bool (ngB R)) ∧ w'.cell? ⟨v214.heap.size + 1, 1, none⟩ = some (.slice A15 n15 c15) ∧ w'.cell? ⟨v212.heap.size, 0, none⟩ = some (.bool (ngB T)) ∧ w'.cell? ⟨v212.heap.size, 1, none⟩ = some (.slice A13 n13 c13))
   (first | (with_reducible exact ⟨x_r.c0, x_r.c1, x_tu.c0, x_tu.c1⟩) | (with_reducible exact ⟨(x_r.aside (by omega)).c0, (x_r.aside (by omega)).c1, (x_tu.aside (by omega)).c0, (x_tu.aside (by omega)).c1⟩) | (with_reducible exact ⟨((x_r.aside (by omega)).aside (by omega)).c0, ((x_r.aside (by omega)).aside (by omega)).c1, ((x_tu.aside (by omega)).aside (by omega)).c0, ((x_tu.aside (by omega)).aside (by omega)).c1⟩) | (with_reducible exact ⟨(x_r.asideD (by omega)).c0, (x_r.asideD (by omega)).c1, (x_tu.asideD (by omega)).c0, (x_tu.asideD (by omega)).c1⟩) | (with_reducible exact ⟨((x_r.asideD (by omega)).asideD (by omega)).c0, ((x_r.asideD (by omega)).asideD (by omega)).c1, ((x_tu.asideD (by omega)).asideD (by omega)).c0, ((x_tu.asideD (by omega)).asideD (by omega)).c1⟩) | (with_reducible exact ⟨(x_r.asideL (by omega)).c0, (x_r.asideL (by omega)).c1, (x_tu.asideL (by omega)).c0, (x_tu.asideL (by omega)).c1⟩) | (with_reducible exact ⟨((x_r.asideL (by omega)).asideL (by omega)).c0, ((x_r.asideL (by omega)).asideL (by omega)).c1, ((x_tu.asideL (by omega)).asideL (by omega)).c0, ((x_tu.asideL (by omega)).asideL (by omega)).c1⟩) | go_keep)
   (first | (go_at_call 24; (with_reducible refine (ZShl_any z15.zr.drw 1 270 (by omega) (by omega)).mono ?_); rintro e v216 ⟨A16, n16, c16, rfl, z16, hb1⟩; replace hb1 := undrew hb1; obtain ⟨x_le, x_mo, x_tu, x_r, z3, z4, z13, z15, hb⟩ := mv9 hb1 x_le x_mo x_tu x_r z3 z4 z13 z15 hb; clear hb1; replace q_tu := x_tu.al; replace q_r := x_r.al; rw [HS1.out] at z16 ⊢) | (go_at_call 18; (with_reducible refine (ZCmp_any z16.zr z13.zr (by omega) (by omega)).mono ?_); rintro e v217 ⟨rfl, hb1⟩; obtain ⟨x_le, x_mo, x_tu, x_r, z3, z4, z13, z15, z16⟩ := mv9 hb1 x_le x_mo x_tu x_r z3 z4 z13 z15 z16; replace hb := Mv.mv hb hb1; clear hb1; replace q_tu := x_tu.al; replace q_r := x_r.al; rw [HC.out]))
  clear z16
  by_cases hC : C ≤ 0
  focus
   go_upto_region 15 with fail
   obtain ⟨d5, F5, i5, j5, D5, y_r, y5, hD5⟩ : ∃ d5 F5 i5 j5 D5, Bx v217 (v214.heap.size + 1) d5 F5 i5 j5 ∧ Zr v217 d5 F5 i5 j5 D5 145 ∧ D5 = D := ⟨_, _, _, _, _, x_r, (z15.wide (by omega)).zr, by have := hc.1 hC; omega⟩
   clear hc hC z15 q_r x_r
   generalize v217 = u at *
  rotate_left
  focus
   go_wp2_with fail
   with_reducible refine (ZSub_any z13.zr z15.zr 145 (by omega) (by omega) (by omega)).mono ?_
   rintro e v218 ⟨A18, n18, c18, rfl, z18, hb1⟩
   obtain ⟨x_le, x_mo, x_tu, x_r, z3, z4, z13, z15, hb⟩ := mv9 hb1 x_le x_mo x_tu x_r z3 z4 z13 z15 hb
   clear hb1
   replace q_tu := x_tu.al
   replace q_r := x_r.al
   go_upto_region 15 with fail
   clear q_tu q_r
   refine x_r.st fun v219 hs hx => ?_
   obtain ⟨x_le, x_mo, x_tu, z3, z4, z13, z15, z18, hb⟩ := ms9 hs ⟨by omega, by omega, by omega, trivial, trivial, trivial, trivial, trivial, by omega⟩ x_le x_mo x_tu z3 z4 z13 z15 z18 hb
   replace x_r := hx; clear hx hs
   have q_tu := x_tu.al
   have q_r := x_r.al
   obtain ⟨d5, F5, i5, j5, D5, y_r, y5, hD5⟩ : ∃ d5 F5 i5 j5 D5, Bx v219 (v214.heap.size + 1) d5 F5 i5 j5 ∧ Zr v219 d5 F5 i5 j5 D5 145 ∧ D5 = D := ⟨_, _, _, _, _, x_r, (z18.wide (by omega)).zr, by have := mt hc.2 (by omega); omega⟩
   clear hc hC z15 z18 q_r x_r
   generalize v219 = u at *
  all_goals
   subst hD5
   have x_r := y_r; clear y_r
   have q_r := x_r.al
   have q_le := x_le.al
   have q_mo := x_mo.al
   have k1 : sgnI (L - D5) ≤ 0 := sgn_le.2 hga.2.1
   have k2 : sgnI (D5 - M) ≤ 0 := sgn_le.2 hga.2.2.1
   have k3 : sgnI (M * 2 - T) ≤ 0 := sgn_le.2 (by omega)
   have k4 : 0 ≤ sgnI L := by have := mt (sgnI_lt0 (X := L)).1 (by omega); omega
   obtain ⟨C1, hC1⟩ : ∃ C, sgnI (L - D5) = C := ⟨_, rfl⟩
   rw [hC1] at k1; have HC1 := Lib.hid hC1; clear hC1
   obtain ⟨C2, hC2⟩ : ∃ C, sgnI (D5 - M) = C := ⟨_, rfl⟩
   rw [hC2] at k2; have HC2 := Lib.hid hC2; clear hC2
   obtain ⟨C3, hC3⟩ : ∃ C, sgnI (M * 2 - T) = C := ⟨_, rfl⟩
   rw [hC3] at k3; have HC3 := Lib.hid hC3; clear hC3
   obtain ⟨C4, hC4⟩ : ∃ C, sgnI L = C := ⟨_, rfl⟩
   rw [hC4] at k4; have HC4 := Lib.hid hC4; clear hC4
   have HS2 : Hid (M * 2 ^ sc (1 : Int) = M * 2) := Lib.hid rfl
   clear hga
   go_region_held3 (fun w' => w'.cell? ⟨v201.heap.size, 0, none⟩ = some (.bool (ngB L)) ∧ w'.cell? ⟨v201.heap.size, 1, none⟩ = some (.slice A3 n3 c3) ∧ w'.cell? ⟨v201.heap.size + 1, 0, none⟩ = some (.bool (ngB M)) ∧ w'.cell? ⟨v201.heap.size + 1, 1, none⟩ = some (.slice A4 n4 c4) ∧ w'.cell? ⟨v212.heap.size, 0, none⟩ = some (.bool (ngB T)) ∧ w'.cell? ⟨v212.heap.size, 1, none⟩ = some (.slice A13 n13 c13) ∧ w'.cell? ⟨v214.heap.size + 1, 0, none⟩ = some (.bool d5) ∧ w'.cell? ⟨v214.heap.size + 1, 1, none⟩ = some (.slice F5 i5 j5))
    (first | (with_reducible exact ⟨x_le.drew.c0, x_le.drew.c1, x_mo.drew.c0, x_mo.drew.c1, x_tu.drew.c0, x_tu.drew.c1, x_r.drew.c0, x_r.drew.c1⟩) | (with_reducible exact ⟨x_le.c0, x_le.c1, x_mo.c0, x_mo.c1, x_tu.c0, x_tu.c1, x_r.c0, x_r.c1⟩) | (with_reducible exact ⟨(x_le.aside (by omega)).c0, (x_le.aside (by omega)).c1, (x_mo.aside (by omega)).c0, (x_mo.aside (by omega)).c1, (x_tu.aside (by omega)).c0, (x_tu.aside (by omega)).c1, (x_r.aside (by omega)).c0, (x_r.aside (by omega)).c1⟩) | (with_reducible exact ⟨((x_le.aside (by omega)).aside (by omega)).c0, ((x_le.aside (by omega)).aside (by omega)).c1, ((x_mo.aside (by omega)).aside (by omega)).c0, ((x_mo.aside (by omega)).aside (by omega)).c1, ((x_tu.aside (by omega)).aside (by omega)).c0, ((x_tu.aside (by omega)).aside (by omega)).c1, ((x_r.aside (by omega)).aside (by omega)).c0, ((x_r.aside (by omega)).aside (by omega)).c1⟩) | (with_reducible exact ⟨(x_le.asideD (by omega)).c0, (x_le.asideD (by omega)).c1, (x_mo.asideD (by omega)).c0, (x_mo.asideD (by omega)).c1, (x_tu.asideD (by omega)).c0, (x_tu.asideD (by omega)).c1, (x_r.asideD (by omega)).c0, (x_r.asideD (by omega)).c1⟩) | (with_reducible exact ⟨((x_le.asideD (by omega)).asideD (by omega)).c0, ((x_le.asideD (by omega)).asideD (by omega)).c1, ((x_mo.asideD (by omega)).asideD (by omega)).c0, ((x_mo.asideD (by omega)).asideD (by omega)).c1, ((x_tu.asideD (by omega)).asideD (by omega)).c0, ((x_tu.asideD (by omega)).asideD (by omega)).c1, ((x_r.asideD (by omega)).asideD (by omega)).c0, ((x_r.asideD (by omega)).asideD (by omega)).c1⟩) | (with_reducible exact ⟨(x_le.asideL (by omega)).c0, (x_le.asideL (by omega)).c1, (x_mo.asideL (by omega)).c0, (x_mo.asideL (by omega)).c1, (x_tu.asideL (by omega)).c0, (x_tu.asideL (by omega)).c1, (x_r.asideL (by omega)).c0, (x_r.asideL (by omega)).c1⟩) | (with_reducible exact ⟨((x_le.asideL (by omega)).asideL (by omega)).c0, ((x_le.asideL (by omega)).asideL (by omega)).c1, ((x_mo.asideL (by omega)).asideL (by omega)).c0, ((x_mo.asideL (by omega)).asideL (by omega)).c1, ((x_tu.asideL (by omega)).asideL (by omega)).c0, ((x_tu.asideL (by omega)).asideL (by omega)).c1, ((x_r.asideL (by omega)).asideL (by omega)).c0, ((x_r.asideL (by omega)).asideL (by omega)).c1⟩) | go_keep)
    (first | (go_at_call 18; (with_reducible refine (ZCmp_any z3.zr.drw y5.drw (by omega) (by omega)).mono ?_); rintro e v401 ⟨rfl, hb1⟩; replace hb1 := undrew hb1; obtain ⟨x_le, x_mo, x_tu, x_r, z3, z4, z13, y5, hb⟩ := mv9 hb1 x_le x_mo x_tu x_r z3 z4 z13 y5 hb; clear hb1; replace q_le := x_le.al; replace q_mo := x_mo.al; replace q_tu := x_tu.al; replace q_r := x_r.al; rw [HC1.out]) | (go_at_call 18; (with_reducible refine (ZCmp_any y5 z4.zr (by omega) (by omega)).mono ?_); rintro e v402 ⟨rfl, hb1⟩; obtain ⟨x_le, x_mo, x_tu, x_r, z3, z4, z13, y5, hb⟩ := mv9 hb1 x_le x_mo x_tu x_r z3 z4 z13 y5 hb; clear hb1; replace q_le := x_le.al; replace q_mo := x_mo.al; replace q_tu := x_tu.al; replace q_r := x_r.al; rw [HC2.out]) | (go_at_call 24; (with_reducible refine (ZShl_any z4.zr 1 400 (by omega) (by omega)).mono ?_); rintro e v403 ⟨A20, n20, c20, rfl, z20, hb1⟩; obtain ⟨x_le, x_mo, x_tu, x_r, z3, z4, z13, y5, hb⟩ := mv9 hb1 x_le x_mo x_tu x_r z3 z4 z13 y5 hb; clear hb1; replace q_le := x_le.al; replace q_mo := x_mo.al; replace q_tu := x_tu.al; replace q_r := x_r.al; rw [HS2.out] at z20 ⊢) | (go_at_call 18; (with_reducible refine (ZCmp_any z20.zr z13.zr (by omega) (by omega)).mono ?_); rintro e v404 ⟨rfl, hb1⟩; obtain ⟨x_le, x_mo, x_tu, x_r, z3, z4, z13, y5, z20⟩ := mv9 hb1 x_le x_mo x_tu x_r z3 z4 z13 y5 z20; replace hb := Mv.mv hb hb1; clear hb1; replace q_le := x_le.al; replace q_mo := x_mo.al; replace q_tu := x_tu.al; replace q_r := x_r.al; rw [HC3.out]) | (go_at_call 25; (with_reducible refine (ZSign_any z3.zr (by omega)).mono ?_); rintro e v405 ⟨rfl, hb1⟩; obtain ⟨x_le, x_mo, x_tu, x_r, z3, z4, z13, y5, z20⟩ := mv9 hb1 x_le x_mo x_tu x_r z3 z4 z13 y5 z20; replace hb := Mv.mv hb hb1; clear hb1; replace q_le := x_le.al; replace q_mo := x_mo.al; replace q_tu := x_tu.al; replace q_r := x_r.al; rw [HC4.out]))
   go_wp2
   go_ret
   exact ⟨rfl, hb⟩
end Go.Proofs.YtdonaominffpnaaGreatDoor
