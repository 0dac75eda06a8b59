/-
 The law PointExact, as a call.
-/
import Derived.Test.YtdonaominffpnaaGreatDoorPshow
namespace Go.Proofs.YtdonaominffpnaaGreatDoor
set_option maxRecDepth 100000
set_option maxHeartbeats 4000000
set_option linter.unusedVariables false
open Go.RowKit
variable {b b2 b3 b4 : Bool} {A A2 A3 A4 : Option Addr} {n c n2 c2 n3 c3 n4 c4 j j2 : Nat} {X Y U V q e : Int} {w : World}
theorem i64_and127 (n : Int) : bits .and .i64 n 127 = n % 128 := by
 have h127 : (BitVec.ofInt 64 127).toNat = 2 ^ 7 - 1 := by decide
 have key : (BitVec.ofInt 64 n &&& BitVec.ofInt 64 127).toNat = (n % ((2 ^ 64 : Nat) : Int)).toNat % 2 ^ 7 := by
  rw [BitVec.toNat_and, BitVec.toNat_ofInt, h127, Nat.and_two_pow_sub_one_eq_mod]
 show IntKind.i64.wrap ((BitVec.ofInt 64 n &&& BitVec.ofInt 64 127).toNat : Nat) = n % 128
 rw [key, IntKind.wrap_i64]
 omega
theorem PointExact_any {w : World} (hT : Tab w) (n0 : Int) (hn0 : -9223372036854775808 ≤ n0 ∧ n0 ≤ 9223372036854775807) (m0 : Int) (hm0 : -9223372036854775808 ≤ m0 ∧ m0 ≤ 9223372036854775807) :
  Calls Tryz.prog 7 #[.int .i64 n0, .int .i64 m0] w fun e w' => e = .returned (.bool true) ∧ Below w.heap.size w w' := by
 obtain ⟨k, hk, hk1⟩ : ∃ k, n0.tmod 1000 = k ∧ (-1000 ≤ k ∧ k ≤ 1000) := ⟨_, rfl, by have a := Int.tmod_lt_of_pos n0 (show (0 : Int) < 1000 by omega); have b := Int.tmod_lt_of_pos (-n0) (show (0 : Int) < 1000 by omega); rw [Int.neg_tmod] at b; omega⟩
 obtain ⟨m, hm, hm1⟩ : ∃ m : Nat, IntKind.i64.wrap (1 + bits .and .i64 m0 127) = (m : Int) ∧ (1 ≤ m ∧ m ≤ 128) := ⟨(1 + m0 % 128).toNat, by rw [i64_and127, wrap_in (by omega) (by omega)]; omega, by omega⟩
 obtain ⟨p, hp⟩ : ∃ p : Nat, (k + 1023).toNat * 4503599627370496 = p := ⟨_, rfl⟩
 have hll := fun w (h : Tab w) => Lk_log2 h hk1 hm1
 have hfi := fun w => First_yes (w := w) k (by omega)
 rw [hp] at hll hfi
 have HLL := Lib.hid hll; have HFI := Lib.hid hfi; clear hll hfi hp
 obtain ⟨r, hr⟩ : ∃ r : Nat, pwN k = r := ⟨_, rfl⟩
 have hle := fun w (h : Tab w) (h0 : k ≠ 0) => Lk_exp2 h h0 hk1 hm1
 have how := fun w A m c (h0 : k ≠ 0) (h : Zn w A m c (od k) 2) (hT : Tab w) => Of_whole h0 hk1 h hT
 rw [hr] at hle how
 have HLE := Lib.hid hle; have HOW := Lib.hid how; clear hle how hr
 have HO := Lib.hid (od_of k)
 have hb := Below.refl w.heap.size w
 clear hn0 hm0
 go_enter Tryz.func7, Tryz.ntmps7
 go_wp2_with fail
 with_reducible refine (Pshown_any hT).mono ?_
 rintro e v1 ⟨rfl, hb1⟩
 obtain ⟨hT, hb⟩ := mv2 hb1 hT hb
 clear hb1
 go_wp2_with fail
 with_reducible refine (HFI.out _).mono ?_
 rintro e v2 ⟨rfl, hb1⟩
 obtain ⟨hT, hb⟩ := mv2 hb1 hT hb
 clear hb1
 go_wp2_with fail
 obtain ⟨P1, R1, q1, K1, E1, S1, M1, k1⟩ := HLL.out _ hT
 skip
 with_reducible refine (k1).mono ?_
 rintro e v3 ⟨A11, n11, c11, A12, n12, c12, A13, n13, c13, A14, n14, c14, rfl, z11, z12, z13, z14, hb1⟩
 obtain ⟨hT, hb⟩ := mv2 hb1 hT hb
 clear hb1
 go_wp2_with fail
 have e_l : w.heap.size ≤ v3.heap.size := hb.size
 refine al1c fun v4 hb1 x_l => ?_
 replace x_l := Ox.of x_l
 obtain ⟨hT, z11, z12, z13, z14, hb⟩ := mv6 hb1 hT z11 z12 z13 z14 hb
 clear hb1
 have q_l := x_l.al
 skip
 with_reducible refine (ZSign_any z13.zr (by omega)).mono ?_
 rintro e v5 ⟨rfl, hb1⟩
 obtain ⟨x_l, hT, z11, z12, z13, z14, hb⟩ := mv7 hb1 x_l hT z11 z12 z13 z14 hb
 clear hb1
 replace q_l := x_l.al
 rw [show sgnI 0 = 0 from rfl]
 go_wp2_with fail
 with_reducible refine (ZOf_any k (by omega) (by omega)).mono ?_
 rintro e v6 ⟨A1, n1, c1, rfl, z1, hb1⟩
 obtain ⟨x_l, hT, z11, z12, z13, z14, hb⟩ := mv7 hb1 x_l hT z11 z12 z13 z14 hb
 clear hb1
 replace q_l := x_l.al
 go_wp2_with fail
 with_reducible refine (DOf_any z1.zr hT 2 (by omega) (by omega)).mono ?_
 rintro e v7 ⟨A3, n3, c3, rfl, z3, hb1⟩
 obtain ⟨x_l, hT, z11, z12, z13, z14, z1, hb⟩ := mv8 hb1 x_l hT z11 z12 z13 z14 z1 hb
 clear hb1
 replace q_l := x_l.al
 rw [HO.out.1, HO.out.2] at *
 rcases (show k = 0 ∨ k ≠ 0 by omega) with h0 | h0
 ·subst h0
  have hX : cM (od 0) (nE 0 0) = 0 := by rw [od_zero]; unfold cM; split <;> rfl
  go_wp2_with fail
  with_reducible refine (Of_zero z3.zr (by omega) hX).mono ?_
  rintro e v8 ⟨rfl, hb1⟩
  obtain ⟨x_l, hT, z11, z12, z13, z14, z3, hb⟩ := mv8 hb1 x_l hT z11 z12 z13 z14 z3 hb
  clear hb1
  replace q_l := x_l.al
  go_wp2
  go_ret
  exact ⟨rfl, hb⟩
 ·go_wp2_with fail
  with_reducible refine (HOW.out _ _ _ _ h0 z3 hT).mono ?_
  rintro e v8 ⟨rfl, hb1⟩
  obtain ⟨x_l, hT, z11, z12, z13, z14, z3, hb⟩ := mv8 hb1 x_l hT z11 z12 z13 z14 z3 hb
  clear hb1
  replace q_l := x_l.al
  have h9 : (k == 0) = false := by simp; omega
  go_wp2_with fail
  obtain ⟨P2, R2, q2, S2, M2, k2⟩ := HLE.out _ hT h0
  skip
  with_reducible refine (k2).mono ?_
  rintro e v9 ⟨A21, n21, c21, A22, n22, c22, A23, n23, c23, A24, n24, c24, rfl, z21, z22, z23, z24, hb1⟩
  obtain ⟨x_l, hT, z11, z12, z13, z14, hb⟩ := mv7 hb1 x_l hT z11 z12 z13 z14 hb
  clear hb1
  replace q_l := x_l.al
  have y_l := ((x_l.alloc (.cells #[.bool (ngB P2), .slice A21 n21 c21, .bool (ngB R2), .slice A22 n22 c22, .int .i64 q2, .int .i64 k, .int .i64 k, .int .i64 S2, .bool (ngB 0), .slice A23 n23 c23, .bool (ngB M2), .slice A24 n24 c24, .bool true] 38))).al
  go_wp2_with fail
  clear y_l
  have l_l_x := x_l.lt
  have e_x : w.heap.size ≤ v9.heap.size := hb.size
  clear q_l
  refine al1c fun v10 hb1 x_x => ?_
  replace x_x := Ox.of x_x
  obtain ⟨x_l, hT, z11, z12, z13, z14, z21, z22, z23⟩ := mv9 hb1 x_l hT z11 z12 z13 z14 z21 z22 z23
  obtain ⟨z24, hb⟩ := mv2 hb1 z24 hb
  clear hb1
  have q_l := x_l.al
  have q_x := x_x.al
  skip
  with_reducible refine (ZSign_any z23.zr (by omega)).mono ?_
  rintro e v11 ⟨rfl, hb1⟩
  obtain ⟨x_l, x_x, hT, z11, z12, z13, z14, z21, z22⟩ := mv9 hb1 x_l x_x hT z11 z12 z13 z14 z21 z22
  obtain ⟨z23, z24, hb⟩ := mv3 hb1 z23 z24 hb
  clear hb1
  replace q_l := x_l.al
  replace q_x := x_x.al
  rw [show sgnI 0 = 0 from rfl]
  go_wp2
  go_ret
  exact ⟨rfl, hb⟩
end Go.Proofs.YtdonaominffpnaaGreatDoor
