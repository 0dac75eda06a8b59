/-
 The law ElemMeets, as a call.
-/
import Derived.Test.YtjlbngjeekdfcaaGreatDoorEshow
import Derived.Test.YtjlbngjeekdfcaaGreatDoorEval
import Derived.Test.YtjlbngjeekdfcaaGreatDoorLmeets
import Derived.Deep.DeepCutAuto
namespace Go.Proofs.YtjlbngjeekdfcaaGreatDoor
set_option maxRecDepth 100000
set_option maxHeartbeats 64000000
set_option linter.unusedVariables false
open Go.RowKit
open MX (bLo bHi tA tZ xK xR xS yR yS uR uS gR gS hR hS wK wR wS vJ vKi vN vLo vHi nq Hd)
theorem i64_and7 (n : Int) : bits .and .i64 n 7 = n % 8 := by
 have h127 : (BitVec.ofInt 64 7).toNat = 2 ^ 3 - 1 := by decide
 have key : (BitVec.ofInt 64 n &&& BitVec.ofInt 64 7).toNat = (n % ((2 ^ 64 : Nat) : Int)).toNat % 2 ^ 3 := by
  rw [BitVec.toNat_and, BitVec.toNat_ofInt, h127, Nat.and_two_pow_sub_one_eq_mod]
 show IntKind.i64.wrap ((BitVec.ofInt 64 n &&& BitVec.ofInt 64 7).toNat : Nat) = n % 8
 rw [key, IntKind.wrap_i64]
 omega
theorem ElemMeets_any {b : Bool} {A : Option Addr} {n c : Nat} {l : List Int} {e : Int} {w : World} (hT : Tab w) (i0 : Int) (hi0 : -9223372036854775808 ≤ i0 ∧ i0 ≤ 9223372036854775807) (h : Rd w w.heap.size A n c l) (p : Int) (hp : -9223372036854775808 ≤ p ∧ p ≤ 9223372036854775807) (q : Int) (hq : -9223372036854775808 ≤ q ∧ q ≤ 9223372036854775807) :
  Calls Tryz.prog 3 #[.int .i64 i0, .agg #[.bool b, .slice A n c, .int .i64 e], .int .i64 p, .int .i64 q] w fun e w' => e = .returned (.bool true) ∧ Below w.heap.size w w' := by
 obtain ⟨s, hs, i, hw, hi⟩ : ∃ s, bits .and .i64 i0 7 = s ∧ ∃ i, s.tmod 6 = i ∧ 0 ≤ i ∧ i ≤ 5 := ⟨i0 % 8, i64_and7 i0, _, rfl, by rw [Int.tmod_eq_emod_of_nonneg (by omega)]; omega⟩
 obtain ⟨M, hM, uM⟩ : ∃ N : Nat, bits .and .i64 p 127 = (N : Int) ∧ N ≤ 127 := ⟨(p % 128).toNat, by rw [i64_and127]; omega, by omega⟩
 obtain ⟨N, hN, uN⟩ : ∃ N : Nat, bits .and .i64 q 127 = (N : Int) ∧ N ≤ 127 := ⟨(q % 128).toNat, by rw [i64_and127]; omega, by omega⟩
 clear hi0 hp hq
 go_enter Tryz.func3, Tryz.ntmps3
 go_wp2_with fail
 refine al1c fun v1 hb x_x => ?_
 replace x_x := Dx.of x_x
 obtain ⟨hT, h⟩ := mv2 hb hT h
 have q_x := x_x.al
 skip
 with_reducible refine (Eshown_any hT).mono ?_
 rintro e v2 ⟨rfl, hb1⟩
 obtain ⟨x_x, hT, h, hb⟩ := mv4 hb1 x_x hT h hb
 clear hb1
 replace q_x := x_x.al
 go_wp2_with fail
 with_reducible refine (Esmall_any h hT).mono ?_
 rintro e v3 ⟨X, f, A1, n1, c1, rfl, z1, sl, hb1⟩
 obtain ⟨x_x, hT, h, hb⟩ := mv4 hb1 x_x hT h hb
 clear hb1
 replace q_x := x_x.al
 clear h
 go_upto_region 3 with fail
 clear q_x
 refine x_x.st fun v4 hs hx => ?_
 obtain ⟨hT, z1, hb⟩ := ms3 hs ⟨hT.neD x_x, trivial, by omega⟩ hT z1 hb
 replace x_x := hx; clear hx hs
 have q_x := x_x.al
 rcases (show (i ≠ 2 ∧ i ≠ 3) ∨ (i = 2 ∨ i = 3) by omega) with hA | hA
 ·have b2 : (i == 2) = false := by simp; omega
  have b3 : (i == 3) = false := by simp; omega
  go_wp2_with fail
  with_reducible refine (Fat (by omega) (z1.wide (by omega)).zr hT sl.ar (q := M) (by omega) (fun k => by omega)).mono ?_
  rintro e v5 ⟨P11, R11, A11, n11, c11, A12, n12, c12, rfl, z11, z12, l11, F11, hb1⟩
  obtain ⟨x_x, hT, z1, hb⟩ := mv4 hb1 x_x hT z1 hb
  clear hb1
  replace q_x := x_x.al
  have y_x := ((x_x.alloc (.cells #[.bool (ngB P11), .slice A11 n11 c11, .bool (ngB R11), .slice A12 n12 c12, .int .i64 (M : Int)] 31))).al
  go_wp2_with fail
  clear y_x
  have l_x_a := x_x.lt
  have e_a : w.heap.size ≤ v5.heap.size := hb.size
  clear q_x
  refine al1c fun v6 hb1 x_a => ?_
  replace x_a := Lx.of x_a
  obtain ⟨x_x, hT, z1, z11, z12, hb⟩ := mv6 hb1 x_x hT z1 z11 z12 hb
  clear hb1
  have q_x := x_x.al
  have q_a := x_a.al
  clear q_a
  skip
  with_reducible refine (Fat (by omega) (z1.wide (by omega)).zr hT sl.ar (q := N) (by omega) (fun k => by omega)).mono ?_
  rintro e v7 ⟨P13, R13, A13, n13, c13, A14, n14, c14, rfl, z13, z14, l13, F13, hb1⟩
  obtain ⟨x_x, x_a, hT, z1, z11, z12, hb⟩ := mv7 hb1 x_x x_a hT z1 z11 z12 hb
  clear hb1
  replace q_x := x_x.al
  have q_a := x_a.al
  have MT : Hid (metB P11 R11 M P13 R13 N = true) := Lib.hid (F11.met F13 rfl (by omega) (by omega))
  have HR1 : Hid (rB P11 R11 M = true) := Lib.hid (rB_yes ⟨by omega, by omega, l11⟩)
  have HR2 : Hid (rB P13 R13 N = true) := Lib.hid (rB_yes ⟨by omega, by omega, l13⟩)
  clear F11 F13 l11 l13
  have y_a := ((x_a.alloc (.cells #[.bool (ngB P13), .slice A13 n13 c13, .bool (ngB R13), .slice A14 n14 c14, .int .i64 (N : Int)] 31))).al
  go_wp2_with fail
  clear y_a
  have l_a_b := x_a.lt
  have e_b : w.heap.size ≤ v7.heap.size := hb.size
  clear q_a
  refine al1c fun v8 hb1 x_b => ?_
  replace x_b := Lx.of x_b
  obtain ⟨x_a, hT, z11, z12, z13, z14, hb⟩ := mv7 hb1 x_a hT z11 z12 z13 z14 hb
  clear hb1
  have q_a := x_a.al
  have q_b := x_b.al
  skip
  with_reducible refine (Right_any z11.zr z12.zr (by omega) (by omega)).mono ?_
  rintro e v9 ⟨rfl, hb1⟩
  obtain ⟨x_a, x_b, hT, z11, z12, z13, z14, hb⟩ := mv8 hb1 x_a x_b hT z11 z12 z13 z14 hb
  clear hb1
  replace q_a := x_a.al
  replace q_b := x_b.al
  rw [HR1.out]
  go_wp2_with fail
  with_reducible refine (Right_any z13.zr z14.zr (by omega) (by omega)).mono ?_
  rintro e v10 ⟨rfl, hb1⟩
  obtain ⟨x_a, x_b, hT, z11, z12, z13, z14, hb⟩ := mv8 hb1 x_a x_b hT z11 z12 z13 z14 hb
  clear hb1
  replace q_a := x_a.al
  replace q_b := x_b.al
  rw [HR2.out]
  go_wp2_with fail
  with_reducible refine (Meets_any z11.zr z12.zr z13.zr z14.zr (by omega) (by omega) (by omega) (by omega)).mono ?_
  rintro e v11 ⟨rfl, hb1⟩
  obtain ⟨x_a, x_b, hT, z11, z12, z13, z14, hb⟩ := mv8 hb1 x_a x_b hT z11 z12 z13 z14 hb
  clear hb1
  replace q_a := x_a.al
  replace q_b := x_b.al
  rw [MT.out]
  go_wp2
  go_ret
  exact ⟨rfl, hb⟩
 ·rcases hA with hA | hA
  focus
   have b2 : (i == 2) = true := by rw [hA]; rfl
   have HI : Hid (i = 2 ∨ i = 3) := Lib.hid (Or.inl hA); clear hA
  rotate_left
  focus
   have b2 : (i == 2) = false := by rw [hA]; rfl
   have b3 : (i == 3) = true := by rw [hA]; rfl
   have HI : Hid (i = 2 ∨ i = 3) := Lib.hid (Or.inr hA); clear hA
  all_goals
   rcases (show X < 0 ∨ X = 0 ∨ 0 < X by omega) with h0 | h0 | h0
   focus
    have HS : Hid (sgnI (cM X f) = -1) := Lib.hid (by rw [sl.sg]; unfold sgnI; rw [if_pos (by omega)])
    go_wp2_with fail
    with_reducible refine (DSign_any z1.zr (by omega)).mono ?_
    rintro e v5 ⟨rfl, hb1⟩
    obtain ⟨x_x, hT, z1, hb⟩ := mv4 hb1 x_x hT z1 hb
    clear hb1
    replace q_x := x_x.al
    rw [HS.out]
    have HN1 := Lib.hid sl.ng; have HSI1 : Hid (Si (-X) 3) := Lib.hid (by have := z1.zr.si; unfold Si at *; rw [Int.natAbs_neg]; exact this)
    go_wp2_with fail
    with_reducible refine (DNeg_any z1.zr hT 4 (by omega) (by omega)).mono ?_
    rintro e v6 ⟨A1, n1, c1, rfl, z1, hb1⟩
    obtain ⟨x_x, hT, hb⟩ := mv3 hb1 x_x hT hb
    clear hb1
    replace q_x := x_x.al
    rw [HN1.out.1] at z1 ⊢; rw [HN1.out.2]; replace z1 := z1.slim HSI1.out
    replace sl := sl.neg; clear HN1 HSI1
    go_wp2_with fail
    clear q_x
    refine x_x.stc fun v7 hs hx => ?_
    obtain ⟨hT, z1, hb⟩ := ms3 hs ⟨hT.neD x_x, trivial, by omega⟩ hT z1 hb
    replace x_x := hx; clear hx hs
    have q_x := x_x.al
    obtain ⟨Z, hZ⟩ : ∃ Z, -X = Z := ⟨_, rfl⟩
    rw [hZ] at sl z1 x_x ⊢
    replace h0 : 0 < Z := by omega
    clear hZ
    clear q_x
    obtain ⟨X, hZ⟩ : ∃ Y, Y = Z := ⟨_, rfl⟩
    subst hZ
    have q_x := x_x.al
    have HS2 : Hid (sgnI (cM X f) = 1) := Lib.hid (by rw [sl.sg]; unfold sgnI; rw [if_neg (by omega), if_neg (by omega)])
    go_wp2_with fail
    with_reducible refine (DSign_any z1.zr (by omega)).mono ?_
    rintro e v8 ⟨rfl, hb1⟩
    obtain ⟨x_x, hT, z1, hb⟩ := mv4 hb1 x_x hT z1 hb
    clear hb1
    replace q_x := x_x.al
    rw [HS2.out]
    clear HS HS2
   rotate_left
   ·have HS : Hid (sgnI (cM X f) = 0) := Lib.hid (by rw [sl.sg]; unfold sgnI; rw [if_neg (by omega), if_pos (by omega)])
    clear h0
    go_wp2_with fail
    with_reducible refine (DSign_any z1.zr (by omega)).mono ?_
    rintro e v5 ⟨rfl, hb1⟩
    obtain ⟨x_x, hT, z1, hb⟩ := mv4 hb1 x_x hT z1 hb
    clear hb1
    replace q_x := x_x.al
    rw [HS.out]
    go_wp2_with fail
    with_reducible refine (DSign_any z1.zr (by omega)).mono ?_
    rintro e v6 ⟨rfl, hb1⟩
    obtain ⟨x_x, hT, z1, hb⟩ := mv4 hb1 x_x hT z1 hb
    clear hb1
    replace q_x := x_x.al
    rw [HS.out]
    go_wp2
    go_ret
    exact ⟨rfl, hb⟩
   focus
    have HS : Hid (sgnI (cM X f) = 1) := Lib.hid (by rw [sl.sg]; unfold sgnI; rw [if_neg (by omega), if_neg (by omega)])
    go_wp2_with fail
    with_reducible refine (DSign_any z1.zr (by omega)).mono ?_
    rintro e v5 ⟨rfl, hb1⟩
    obtain ⟨x_x, hT, z1, hb⟩ := mv4 hb1 x_x hT z1 hb
    clear hb1
    replace q_x := x_x.al
    rw [HS.out]
    go_wp2_with fail
    with_reducible refine (DSign_any z1.zr (by omega)).mono ?_
    rintro e v6 ⟨rfl, hb1⟩
    obtain ⟨x_x, hT, z1, hb⟩ := mv4 hb1 x_x hT z1 hb
    clear hb1
    replace q_x := x_x.al
    rw [HS.out]
    clear HS
   all_goals
    clear HI
    go_wp2_with fail
    with_reducible refine (Fat (by omega) (z1.wide (by omega)).zr hT sl.ar (q := M) (by omega) (fun _ => ⟨h0, by have := lg_3 sl h0; omega⟩)).mono ?_
    rintro e v201 ⟨P11, R11, A11, n11, c11, A12, n12, c12, rfl, z11, z12, l11, F11, hb1⟩
    obtain ⟨x_x, hT, z1, hb⟩ := mv4 hb1 x_x hT z1 hb
    clear hb1
    replace q_x := x_x.al
    have y_x := ((x_x.alloc (.cells #[.bool (ngB P11), .slice A11 n11 c11, .bool (ngB R11), .slice A12 n12 c12, .int .i64 (M : Int)] 31))).al
    go_wp2_with fail
    clear y_x
    have l_x_a := x_x.lt
    have e_a : w.heap.size ≤ v201.heap.size := hb.size
    clear q_x
    refine al1c fun v202 hb1 x_a => ?_
    replace x_a := Lx.of x_a
    obtain ⟨x_x, hT, z1, z11, z12, hb⟩ := mv6 hb1 x_x hT z1 z11 z12 hb
    clear hb1
    have q_x := x_x.al
    have q_a := x_a.al
    clear q_a
    skip
    with_reducible refine (Fat (by omega) (z1.wide (by omega)).zr hT sl.ar (q := N) (by omega) (fun _ => ⟨h0, by have := lg_3 sl h0; omega⟩)).mono ?_
    rintro e v203 ⟨P13, R13, A13, n13, c13, A14, n14, c14, rfl, z13, z14, l13, F13, hb1⟩
    obtain ⟨x_x, x_a, hT, z1, z11, z12, hb⟩ := mv7 hb1 x_x x_a hT z1 z11 z12 hb
    clear hb1
    replace q_x := x_x.al
    have q_a := x_a.al
    have MT : Hid (metB P11 R11 M P13 R13 N = true) := Lib.hid (F11.met F13 rfl (by omega) (by omega))
    have HR1 : Hid (rB P11 R11 M = true) := Lib.hid (rB_yes ⟨by omega, by omega, l11⟩)
    have HR2 : Hid (rB P13 R13 N = true) := Lib.hid (rB_yes ⟨by omega, by omega, l13⟩)
    clear F11 F13 l11 l13
    have y_a := ((x_a.alloc (.cells #[.bool (ngB P13), .slice A13 n13 c13, .bool (ngB R13), .slice A14 n14 c14, .int .i64 (N : Int)] 31))).al
    go_wp2_with fail
    clear y_a
    have l_a_b := x_a.lt
    have e_b : w.heap.size ≤ v203.heap.size := hb.size
    clear q_a
    refine al1c fun v204 hb1 x_b => ?_
    replace x_b := Lx.of x_b
    obtain ⟨x_a, hT, z11, z12, z13, z14, hb⟩ := mv7 hb1 x_a hT z11 z12 z13 z14 hb
    clear hb1
    have q_a := x_a.al
    have q_b := x_b.al
    skip
    with_reducible refine (Right_any z11.zr z12.zr (by omega) (by omega)).mono ?_
    rintro e v205 ⟨rfl, hb1⟩
    obtain ⟨x_a, x_b, hT, z11, z12, z13, z14, hb⟩ := mv8 hb1 x_a x_b hT z11 z12 z13 z14 hb
    clear hb1
    replace q_a := x_a.al
    replace q_b := x_b.al
    rw [HR1.out]
    go_wp2_with fail
    with_reducible refine (Right_any z13.zr z14.zr (by omega) (by omega)).mono ?_
    rintro e v206 ⟨rfl, hb1⟩
    obtain ⟨x_a, x_b, hT, z11, z12, z13, z14, hb⟩ := mv8 hb1 x_a x_b hT z11 z12 z13 z14 hb
    clear hb1
    replace q_a := x_a.al
    replace q_b := x_b.al
    rw [HR2.out]
    go_wp2_with fail
    with_reducible refine (Meets_any z11.zr z12.zr z13.zr z14.zr (by omega) (by omega) (by omega) (by omega)).mono ?_
    rintro e v207 ⟨rfl, hb1⟩
    obtain ⟨x_a, x_b, hT, z11, z12, z13, z14, hb⟩ := mv8 hb1 x_a x_b hT z11 z12 z13 z14 hb
    clear hb1
    replace q_a := x_a.al
    replace q_b := x_b.al
    rw [MT.out]
    go_wp2
    go_ret
    exact ⟨rfl, hb⟩
end Go.Proofs.YtjlbngjeekdfcaaGreatDoor
