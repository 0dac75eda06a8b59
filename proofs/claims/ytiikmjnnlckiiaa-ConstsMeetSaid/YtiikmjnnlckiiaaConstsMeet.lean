/-
  The law ConstsMeet, as a call.
-/
import Derived.Test.YtiikmjnnlckiiaaCshow
import Derived.Test.YtiikmjnnlckiiaaLmeets
import Derived.Laws.BitsAllLaws
namespace Go.Proofs.Ytiikmjnnlckiiaa
open Go.RowKit
set_option linter.unusedVariables false

theorem i64_and255 (n : Int) : bits .and .i64 n 255 = n % 256 := by
  have h127 : (BitVec.ofInt 64 255).toNat = 2 ^ 8 - 1 := by decide
  have key : (BitVec.ofInt 64 n &&& BitVec.ofInt 64 255).toNat = (n % ((2 ^ 64 : Nat) : Int)).toNat % 2 ^ 8 := by
    rw [BitVec.toNat_and, BitVec.toNat_ofInt, h127, Nat.and_two_pow_sub_one_eq_mod]
  show IntKind.i64.wrap ((BitVec.ofInt 64 n &&& BitVec.ofInt 64 255).toNat : Nat) = n % 256
  rw [key, IntKind.wrap_i64]
  omega
theorem masked255 (n : Int) : ∃ Q : Nat, bits .and .i64 n 255 = (Q : Int) ∧ Q < 256 := ⟨(n % 256).toNat, by rw [i64_and255]; omega, by omega⟩
theorem vd_at {X : Int} {p : Nat} (hp : p < 256) {k : Nat} (hk : k = 3700) : vd X (-(p : Int)) = X * 2 ^ (300 - p) * 2 ^ k := by
  unfold vd
  rw [Int.mul_assoc, ipow_add, show (-(p : Int) + 4000).toNat = 300 - p + k by omega]
theorem met_in {X Y U V K : Int} {p q : Nat} (hp : p < 256) (hq : q < 256) (h : X * 2 ^ (300 - p) ≤ K ∧ K ≤ Y * 2 ^ (300 - p) ∧ X ≤ Y ∧ Y - X ≤ 2) (h2 : U * 2 ^ (300 - q) ≤ K ∧ K ≤ V * 2 ^ (300 - q) ∧ U ≤ V ∧ V - U ≤ 2) : metB X Y p U V q = true := by
  obtain ⟨k, hk⟩ : ∃ k : Nat, k = 3700 := ⟨_, rfl⟩
  refine decide_eq_true ⟨⟨by omega, by omega, h.2.2.1⟩, ⟨by omega, by omega, h2.2.2.1⟩, ?_, ?_⟩
  · rw [vd_at hp hk, vd_at hq hk]; exact (mulp_le _).2 (Int.le_trans h.1 h2.2.1)
  · rw [vd_at hp hk, vd_at hq hk]; exact (mulp_le _).2 (Int.le_trans h2.1 h.2.1)
theorem sgn_le7 {X : Int} (h : X ≤ 0) : sgnI X ≤ 0 := by unfold sgnI; split <;> (try split) <;> omega
set_option maxRecDepth 100000 in
set_option maxHeartbeats 32000000 in
theorem ConstsMeet_any {p q : Int} {w : World} (hp : -9223372036854775808 ≤ p ∧ p ≤ 9223372036854775807) (hq : -9223372036854775808 ≤ q ∧ q ≤ 9223372036854775807) :
    Calls Try.prog 3 #[.int .i64 p, .int .i64 q] w fun e w' => e = .returned (.bool true) ∧ Below w.heap.size w w' := by
  clear hp hq
  have hb := Below.refl w.heap.size w
  obtain ⟨P, wp, hP⟩ := masked255 p
  obtain ⟨Q, wq, hQ⟩ := masked255 q
  have l1 := ln_in P hP; have l2 := ln_in Q hQ; have l3 := pi_in P hP; have l4 := pi_in Q hQ
  have m1 := met_in hP hQ l1 l2; have m2 := met_in hP hQ l3 l4
  obtain ⟨LA, hLA⟩ : ∃ e, lnA P = e := ⟨_, rfl⟩
  obtain ⟨LZ, hLZ⟩ : ∃ e, lnZ P = e := ⟨_, rfl⟩
  obtain ⟨LU, hLU⟩ : ∃ e, lnA Q = e := ⟨_, rfl⟩
  obtain ⟨LV, hLV⟩ : ∃ e, lnZ Q = e := ⟨_, rfl⟩
  obtain ⟨PA, hPA⟩ : ∃ e, piA P = e := ⟨_, rfl⟩
  obtain ⟨PZ, hPZ⟩ : ∃ e, piZ P = e := ⟨_, rfl⟩
  obtain ⟨PU, hPU⟩ : ∃ e, piA Q = e := ⟨_, rfl⟩
  obtain ⟨PV, hPV⟩ : ∃ e, piZ Q = e := ⟨_, rfl⟩
  rw [hLA, hLZ] at l1 m1; rw [hLU, hLV] at l2 m1; rw [hPA, hPZ] at l3 m2; rw [hPU, hPV] at l4 m2
  have oS1 : LZ - LA - 2 ≤ 0 := by omega
  obtain ⟨S1, hS1⟩ : ∃ e, sgnI (LZ - LA - 2) = e := ⟨_, rfl⟩
  have iS1 : S1 ≤ 0 := by rw [← hS1]; exact sgn_le7 oS1
  have jS1 : decide (0 < S1) = false := decide_eq_false (by omega)
  have HS1 := Lib.hid hS1; clear hS1 oS1
  have oS2 : PZ - PA - 2 ≤ 0 := by omega
  obtain ⟨S2, hS2⟩ : ∃ e, sgnI (PZ - PA - 2) = e := ⟨_, rfl⟩
  have iS2 : S2 ≤ 0 := by rw [← hS2]; exact sgn_le7 oS2
  have jS2 : decide (0 < S2) = false := decide_eq_false (by omega)
  have HS2 := Lib.hid hS2; clear hS2 oS2
  have HV1 : Hid (rB LA LZ P = true) := Lib.hid (rB_yes ⟨by omega, by omega, l1.2.2.1⟩)
  have HV2 : Hid (rB PA PZ P = true) := Lib.hid (rB_yes ⟨by omega, by omega, l3.2.2.1⟩)
  have M1 := Lib.hid m1; have M2 := Lib.hid m2
  have HLA := Lib.hid hLA
  have HLZ := Lib.hid hLZ
  have HLU := Lib.hid hLU
  have HLV := Lib.hid hLV
  have HPA := Lib.hid hPA
  have HPZ := Lib.hid hPZ
  have HPU := Lib.hid hPU
  have HPV := Lib.hid hPV
  clear l1 l2 l3 l4 m1 m2 hLA hLZ hLU hLV hPA hPZ hPU hPV
  go_enter Try.func3, Try.ntmps3
  go_wp2_with fail
  with_reducible refine (Cshown_any).mono ?_
  rintro e v1 ⟨rfl, hb1⟩
  replace hb := bthen hb hb1
  clear hb1
  go_wp2_with fail
  with_reducible refine (KLn2_yes P _ (by omega)).mono ?_
  rintro e v2 ⟨A10, n10, c10, A11, n11, c11, rfl, z10, z11, hb1⟩
  replace hb := bthen hb hb1
  clear hb1
  rw [HLA.out] at z10 ⊢; rw [HLZ.out] at z11 ⊢
  go_upto_region 5 with fail
  have hb1 := below_alloc v2 (.cells #[.bool (ngB LA), .slice A10 n10 c10, .bool (ngB LZ), .slice A11 n11 c11, .int .i64 (P : Int)] 27)
  have x_a := Lx.new v2 (ngB LA) A10 n10 c10 (ngB LZ) A11 n11 c11 (P : Int)
  have e_a : w.heap.size ≤ v2.heap.size := hb.size
  replace z10 := z10.keep hb1
  replace z11 := z11.keep hb1
  replace hb := bthen hb hb1
  clear hb1
  generalize v2.alloc (.cells #[.bool (ngB LA), .slice A10 n10 c10, .bool (ngB LZ), .slice A11 n11 c11, .int .i64 (P : Int)] 27) = v3 at *
  have q_a := x_a.al
  go_wp2_with fail
  with_reducible refine (KLn2_yes Q _ (by omega)).mono ?_
  rintro e v4 ⟨A12, n12, c12, A13, n13, c13, rfl, z12, z13, hb1⟩
  replace x_a := x_a.keep hb1
  replace z10 := z10.keep hb1
  replace z11 := z11.keep hb1
  replace hb := bthen hb hb1
  clear hb1
  replace q_a := x_a.al
  rw [HLU.out] at z12 ⊢; rw [HLV.out] at z13 ⊢
  have y_a := ((x_a.alloc (.cells #[.bool (ngB LU), .slice A12 n12 c12, .bool (ngB LV), .slice A13 n13 c13, .int .i64 (Q : Int)] 27))).al
  go_upto_region 6 with fail
  clear y_a
  have hb1 := below_alloc v4 (.cells #[.bool (ngB LU), .slice A12 n12 c12, .bool (ngB LV), .slice A13 n13 c13, .int .i64 (Q : Int)] 27)
  have l_a_b := x_a.lt
  have x_b := Lx.new v4 (ngB LU) A12 n12 c12 (ngB LV) A13 n13 c13 (Q : Int)
  have e_b : w.heap.size ≤ v4.heap.size := hb.size
  clear q_a
  replace x_a := x_a.keep hb1
  replace z10 := z10.keep hb1
  replace z11 := z11.keep hb1
  replace z12 := z12.keep hb1
  replace z13 := z13.keep hb1
  replace hb := bthen hb hb1
  clear hb1
  generalize v4.alloc (.cells #[.bool (ngB LU), .slice A12 n12 c12, .bool (ngB LV), .slice A13 n13 c13, .int .i64 (Q : Int)] 27) = v5 at *
  have q_a := x_a.al
  have q_b := x_b.al
  go_wp2_with fail
  with_reducible refine (KPi_yes P _ (by omega)).mono ?_
  rintro e v6 ⟨A14, n14, c14, A15, n15, c15, rfl, z14, z15, hb1⟩
  replace x_a := x_a.keep hb1
  replace x_b := x_b.keep hb1
  replace z10 := z10.keep hb1
  replace z11 := z11.keep hb1
  replace z12 := z12.keep hb1
  replace z13 := z13.keep hb1
  replace hb := bthen hb hb1
  clear hb1
  replace q_a := x_a.al
  replace q_b := x_b.al
  rw [HPA.out] at z14 ⊢; rw [HPZ.out] at z15 ⊢
  have y_a := ((x_a.alloc (.cells #[.bool (ngB PA), .slice A14 n14 c14, .bool (ngB PZ), .slice A15 n15 c15, .int .i64 (P : Int)] 27))).al
  have y_b := ((x_b.alloc (.cells #[.bool (ngB PA), .slice A14 n14 c14, .bool (ngB PZ), .slice A15 n15 c15, .int .i64 (P : Int)] 27))).al
  go_upto_region 7 with fail
  clear y_a y_b
  have hb1 := below_alloc v6 (.cells #[.bool (ngB PA), .slice A14 n14 c14, .bool (ngB PZ), .slice A15 n15 c15, .int .i64 (P : Int)] 27)
  have l_a_c := x_a.lt
  have l_b_c := x_b.lt
  have x_c := Lx.new v6 (ngB PA) A14 n14 c14 (ngB PZ) A15 n15 c15 (P : Int)
  have e_c : w.heap.size ≤ v6.heap.size := hb.size
  clear q_a q_b
  replace x_a := x_a.keep hb1
  replace x_b := x_b.keep hb1
  replace z10 := z10.keep hb1
  replace z11 := z11.keep hb1
  replace z12 := z12.keep hb1
  replace z13 := z13.keep hb1
  replace z14 := z14.keep hb1
  replace z15 := z15.keep hb1
  replace hb := bthen hb hb1
  clear hb1
  generalize v6.alloc (.cells #[.bool (ngB PA), .slice A14 n14 c14, .bool (ngB PZ), .slice A15 n15 c15, .int .i64 (P : Int)] 27) = v7 at *
  have q_a := x_a.al
  have q_b := x_b.al
  have q_c := x_c.al
  go_wp2_with fail
  with_reducible refine (KPi_yes Q _ (by omega)).mono ?_
  rintro e v8 ⟨A16, n16, c16, A17, n17, c17, rfl, z16, z17, hb1⟩
  replace x_a := x_a.keep hb1
  replace x_b := x_b.keep hb1
  replace x_c := x_c.keep hb1
  replace z10 := z10.keep hb1
  replace z11 := z11.keep hb1
  replace z12 := z12.keep hb1
  replace z13 := z13.keep hb1
  replace z14 := z14.keep hb1
  replace z15 := z15.keep hb1
  replace hb := bthen hb hb1
  clear hb1
  replace q_a := x_a.al
  replace q_b := x_b.al
  replace q_c := x_c.al
  rw [HPU.out] at z16 ⊢; rw [HPV.out] at z17 ⊢
  have y_a := ((x_a.alloc (.cells #[.bool (ngB PU), .slice A16 n16 c16, .bool (ngB PV), .slice A17 n17 c17, .int .i64 (Q : Int)] 27))).al
  have y_b := ((x_b.alloc (.cells #[.bool (ngB PU), .slice A16 n16 c16, .bool (ngB PV), .slice A17 n17 c17, .int .i64 (Q : Int)] 27))).al
  have y_c := ((x_c.alloc (.cells #[.bool (ngB PU), .slice A16 n16 c16, .bool (ngB PV), .slice A17 n17 c17, .int .i64 (Q : Int)] 27))).al
  go_upto_region 8 with fail
  clear y_a y_b y_c
  have hb1 := below_alloc v8 (.cells #[.bool (ngB PU), .slice A16 n16 c16, .bool (ngB PV), .slice A17 n17 c17, .int .i64 (Q : Int)] 27)
  have l_a_d := x_a.lt
  have l_b_d := x_b.lt
  have l_c_d := x_c.lt
  have x_d := Lx.new v8 (ngB PU) A16 n16 c16 (ngB PV) A17 n17 c17 (Q : Int)
  have e_d : w.heap.size ≤ v8.heap.size := hb.size
  clear q_a q_b q_c
  replace x_a := x_a.keep hb1
  replace x_b := x_b.keep hb1
  replace x_c := x_c.keep hb1
  replace z10 := z10.keep hb1
  replace z11 := z11.keep hb1
  replace z12 := z12.keep hb1
  replace z13 := z13.keep hb1
  replace z14 := z14.keep hb1
  replace z15 := z15.keep hb1
  replace z16 := z16.keep hb1
  replace z17 := z17.keep hb1
  replace hb := bthen hb hb1
  clear hb1
  generalize v8.alloc (.cells #[.bool (ngB PU), .slice A16 n16 c16, .bool (ngB PV), .slice A17 n17 c17, .int .i64 (Q : Int)] 27) = v9 at *
  have q_a := x_a.al
  have q_b := x_b.al
  have q_c := x_c.al
  have q_d := x_d.al
  go_wp2_with fail
  with_reducible refine (ZSub_any z11.zr z10.zr 201 (by omega) (by omega) (by omega)).mono ?_
  rintro e v10 ⟨A30, n30, c30, rfl, z30, hb1⟩
  replace x_a := x_a.keep hb1
  replace x_b := x_b.keep hb1
  replace x_c := x_c.keep hb1
  replace x_d := x_d.keep hb1
  replace z10 := z10.keep hb1
  replace z11 := z11.keep hb1
  replace z12 := z12.keep hb1
  replace z13 := z13.keep hb1
  replace z14 := z14.keep hb1
  replace z15 := z15.keep hb1
  replace z16 := z16.keep hb1
  replace z17 := z17.keep hb1
  replace hb := bthen hb hb1
  clear hb1
  replace q_a := x_a.al
  replace q_b := x_b.al
  replace q_c := x_c.al
  replace q_d := x_d.al
  go_wp2_with fail
  with_reducible refine (ZOf_any 2 (by omega) (by omega)).mono ?_
  rintro e v11 ⟨A31, n31, c31, rfl, z31, hb1⟩
  replace x_a := x_a.keep hb1
  replace x_b := x_b.keep hb1
  replace x_c := x_c.keep hb1
  replace x_d := x_d.keep hb1
  replace z10 := z10.keep hb1
  replace z11 := z11.keep hb1
  replace z12 := z12.keep hb1
  replace z13 := z13.keep hb1
  replace z14 := z14.keep hb1
  replace z15 := z15.keep hb1
  replace z16 := z16.keep hb1
  replace z17 := z17.keep hb1
  replace z30 := z30.keep hb1
  replace hb := bthen hb hb1
  clear hb1
  replace q_a := x_a.al
  replace q_b := x_b.al
  replace q_c := x_c.al
  replace q_d := x_d.al
  go_wp2_with fail
  with_reducible refine (ZCmp_any z30.zr z31.zr (by omega) (by omega)).mono ?_
  rintro e v12 ⟨rfl, hb1⟩
  replace x_a := x_a.keep hb1
  replace x_b := x_b.keep hb1
  replace x_c := x_c.keep hb1
  replace x_d := x_d.keep hb1
  replace z10 := z10.keep hb1
  replace z11 := z11.keep hb1
  replace z12 := z12.keep hb1
  replace z13 := z13.keep hb1
  replace z14 := z14.keep hb1
  replace z15 := z15.keep hb1
  replace z16 := z16.keep hb1
  replace z17 := z17.keep hb1
  replace z30 := z30.keep hb1
  replace z31 := z31.keep hb1
  replace hb := bthen hb hb1
  clear hb1
  replace q_a := x_a.al
  replace q_b := x_b.al
  replace q_c := x_c.al
  replace q_d := x_d.al
  rw [HS1.out]
  go_wp2_with fail
  with_reducible refine (ZSub_any z15.zr z14.zr 201 (by omega) (by omega) (by omega)).mono ?_
  rintro e v13 ⟨A32, n32, c32, rfl, z32, hb1⟩
  replace x_a := x_a.keep hb1
  replace x_b := x_b.keep hb1
  replace x_c := x_c.keep hb1
  replace x_d := x_d.keep hb1
  replace z10 := z10.keep hb1
  replace z11 := z11.keep hb1
  replace z12 := z12.keep hb1
  replace z13 := z13.keep hb1
  replace z14 := z14.keep hb1
  replace z15 := z15.keep hb1
  replace z16 := z16.keep hb1
  replace z17 := z17.keep hb1
  replace z30 := z30.keep hb1
  replace z31 := z31.keep hb1
  replace hb := bthen hb hb1
  clear hb1
  replace q_a := x_a.al
  replace q_b := x_b.al
  replace q_c := x_c.al
  replace q_d := x_d.al
  go_wp2_with fail
  with_reducible refine (ZOf_any 2 (by omega) (by omega)).mono ?_
  rintro e v14 ⟨A33, n33, c33, rfl, z33, hb1⟩
  replace x_a := x_a.keep hb1
  replace x_b := x_b.keep hb1
  replace x_c := x_c.keep hb1
  replace x_d := x_d.keep hb1
  replace z10 := z10.keep hb1
  replace z11 := z11.keep hb1
  replace z12 := z12.keep hb1
  replace z13 := z13.keep hb1
  replace z14 := z14.keep hb1
  replace z15 := z15.keep hb1
  replace z16 := z16.keep hb1
  replace z17 := z17.keep hb1
  replace z30 := z30.keep hb1
  replace z31 := z31.keep hb1
  replace z32 := z32.keep hb1
  replace hb := bthen hb hb1
  clear hb1
  replace q_a := x_a.al
  replace q_b := x_b.al
  replace q_c := x_c.al
  replace q_d := x_d.al
  go_wp2_with fail
  with_reducible refine (ZCmp_any z32.zr z33.zr (by omega) (by omega)).mono ?_
  rintro e v15 ⟨rfl, hb1⟩
  replace x_a := x_a.keep hb1
  replace x_b := x_b.keep hb1
  replace x_c := x_c.keep hb1
  replace x_d := x_d.keep hb1
  replace z10 := z10.keep hb1
  replace z11 := z11.keep hb1
  replace z12 := z12.keep hb1
  replace z13 := z13.keep hb1
  replace z14 := z14.keep hb1
  replace z15 := z15.keep hb1
  replace z16 := z16.keep hb1
  replace z17 := z17.keep hb1
  replace z30 := z30.keep hb1
  replace z31 := z31.keep hb1
  replace z32 := z32.keep hb1
  replace z33 := z33.keep hb1
  replace hb := bthen hb hb1
  clear hb1
  replace q_a := x_a.al
  replace q_b := x_b.al
  replace q_c := x_c.al
  replace q_d := x_d.al
  rw [HS2.out]
  go_wp2_with fail
  with_reducible refine (Right_any z10.zr z11.zr (by omega) (by omega)).mono ?_
  rintro e v16 ⟨rfl, hb1⟩
  replace x_a := x_a.keep hb1
  replace x_b := x_b.keep hb1
  replace x_c := x_c.keep hb1
  replace x_d := x_d.keep hb1
  replace z10 := z10.keep hb1
  replace z11 := z11.keep hb1
  replace z12 := z12.keep hb1
  replace z13 := z13.keep hb1
  replace z14 := z14.keep hb1
  replace z15 := z15.keep hb1
  replace z16 := z16.keep hb1
  replace z17 := z17.keep hb1
  replace z30 := z30.keep hb1
  replace z31 := z31.keep hb1
  replace z32 := z32.keep hb1
  replace z33 := z33.keep hb1
  replace hb := bthen hb hb1
  clear hb1
  replace q_a := x_a.al
  replace q_b := x_b.al
  replace q_c := x_c.al
  replace q_d := x_d.al
  rw [HV1.out]
  go_wp2_with fail
  with_reducible refine (Right_any z14.zr z15.zr (by omega) (by omega)).mono ?_
  rintro e v17 ⟨rfl, hb1⟩
  replace x_a := x_a.keep hb1
  replace x_b := x_b.keep hb1
  replace x_c := x_c.keep hb1
  replace x_d := x_d.keep hb1
  replace z10 := z10.keep hb1
  replace z11 := z11.keep hb1
  replace z12 := z12.keep hb1
  replace z13 := z13.keep hb1
  replace z14 := z14.keep hb1
  replace z15 := z15.keep hb1
  replace z16 := z16.keep hb1
  replace z17 := z17.keep hb1
  replace z30 := z30.keep hb1
  replace z31 := z31.keep hb1
  replace z32 := z32.keep hb1
  replace z33 := z33.keep hb1
  replace hb := bthen hb hb1
  clear hb1
  replace q_a := x_a.al
  replace q_b := x_b.al
  replace q_c := x_c.al
  replace q_d := x_d.al
  rw [HV2.out]
  go_wp2_with fail
  with_reducible refine (Meets_any z10.zr z11.zr z12.zr z13.zr (by omega) (by omega) (by omega) (by omega)).mono ?_
  rintro e v18 ⟨rfl, hb1⟩
  replace x_a := x_a.keep hb1
  replace x_b := x_b.keep hb1
  replace x_c := x_c.keep hb1
  replace x_d := x_d.keep hb1
  replace z10 := z10.keep hb1
  replace z11 := z11.keep hb1
  replace z12 := z12.keep hb1
  replace z13 := z13.keep hb1
  replace z14 := z14.keep hb1
  replace z15 := z15.keep hb1
  replace z16 := z16.keep hb1
  replace z17 := z17.keep hb1
  replace z30 := z30.keep hb1
  replace z31 := z31.keep hb1
  replace z32 := z32.keep hb1
  replace z33 := z33.keep hb1
  replace hb := bthen hb hb1
  clear hb1
  replace q_a := x_a.al
  replace q_b := x_b.al
  replace q_c := x_c.al
  replace q_d := x_d.al
  rw [M1.out]
  go_wp2_with fail
  with_reducible refine (Meets_any z14.zr z15.zr z16.zr z17.zr (by omega) (by omega) (by omega) (by omega)).mono ?_
  rintro e v19 ⟨rfl, hb1⟩
  replace x_a := x_a.keep hb1
  replace x_b := x_b.keep hb1
  replace x_c := x_c.keep hb1
  replace x_d := x_d.keep hb1
  replace z10 := z10.keep hb1
  replace z11 := z11.keep hb1
  replace z12 := z12.keep hb1
  replace z13 := z13.keep hb1
  replace z14 := z14.keep hb1
  replace z15 := z15.keep hb1
  replace z16 := z16.keep hb1
  replace z17 := z17.keep hb1
  replace z30 := z30.keep hb1
  replace z31 := z31.keep hb1
  replace z32 := z32.keep hb1
  replace z33 := z33.keep hb1
  replace hb := bthen hb hb1
  clear hb1
  replace q_a := x_a.al
  replace q_b := x_b.al
  replace q_c := x_c.al
  replace q_d := x_d.al
  rw [M2.out]
  go_wp2
  go_ret
  exact ⟨rfl, hb⟩

end Go.Proofs.Ytiikmjnnlckiiaa
