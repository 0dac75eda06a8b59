/-
 The law ConstsTell, as a call.
-/
import Derived.Test.YtiikmjnnlckiiaaGreatCln
import Derived.Test.YtiikmjnnlckiiaaGreatPd
import Derived.Test.YtiikmjnnlckiiaaGreatLrdn
import Derived.Test.YtiikmjnnlckiiaaGreatQln
import Derived.Test.YtiikmjnnlckiiaaGreatQpi
namespace Go.Proofs.YtiikmjnnlckiiaaGreat
open Go.RowKit
set_option linter.unusedVariables false

theorem tx7_3 {N : Nat} (h : 100 ≤ N) (h2 : N < 1000) : txL (N : Int) = [digC (N / 10 / 10), digC (N / 10 % 10), digC (N % 10)] := by
 unfold txL; rw [if_neg (by omega), show (N : Int).natAbs = N by omega, decL_big (by omega), decL_big (by omega), decL_small (by omega)]; rfl
theorem tx7_177 : txL 177 = [49, 55, 55] := tx7_3 (N := 177) (by omega) (by omega)
theorem tx7_178 : txL 178 = [49, 55, 56] := tx7_3 (N := 178) (by omega) (by omega)
theorem tx7_804 : txL 804 = [56, 48, 52] := tx7_3 (N := 804) (by omega) (by omega)
theorem tx7_805 : txL 805 = [56, 48, 53] := tx7_3 (N := 805) (by omega) (by omega)
theorem ln_8 : lnA 8 = 177 ∧ lnZ 8 = 178 := by
 unfold lnA lnZ
 rw [lnLo_N, lnHi_N]
 decide +kernel
theorem pi_8 : piA 8 = 804 ∧ piZ 8 = 805 := by
 unfold piA piZ
 rw [arLo_N, arHi_N, arLo_N, arHi_N]
 decide +kernel
theorem KLn2_8 (w : World) : Calls Tryz.prog 5 #[.int .i64 8] w (OuL w 177 178 8 200) := by
 have h := KLn2_yes 8 w (by omega)
 rw [ln_8.1, ln_8.2] at h
 exact h
theorem KPi_8 (w : World) : Calls Tryz.prog 7 #[.int .i64 8] w (OuL w 804 805 8 200) := by
 have h := KPi_yes 8 w (by omega)
 rw [pi_8.1, pi_8.2] at h
 exact h
set_option maxRecDepth 100000 in
set_option maxHeartbeats 8000000 in
theorem Cshown_any {w : World} : Calls Tryz.prog 4 #[] w fun e w' => e = .returned (.bool true) ∧ Below w.heap.size w w' := by
 have hb := Below.refl w.heap.size w
 go_enter Tryz.func4, Tryz.ntmps4
 go_wp2_with fail
 with_reducible refine (KLn2_8 _).mono ?_
 rintro e v1 ⟨A5, n5, c5, A6, n6, c6, rfl, z5, z6, hb1⟩
 replace hb := bthen hb hb1
 clear hb1
 go_wp2_with fail
 have hb1 := below_alloc v1 (.cells #[.bool (ngB 177), .slice A5 n5 c5, .bool (ngB 178), .slice A6 n6 c6, .int .i64 8] 27)
 have x_l := Lx.new v1 (ngB 177) A5 n5 c5 (ngB 178) A6 n6 c6 8
 have e_l : w.heap.size ≤ v1.heap.size := hb.size
 obtain ⟨z5, z6⟩ := mv2 hb1 z5 z6
 replace hb := bthen hb hb1
 clear hb1
 generalize v1.alloc (.cells #[.bool (ngB 177), .slice A5 n5 c5, .bool (ngB 178), .slice A6 n6 c6, .int .i64 8] 27) = v2 at *
 have q_l := x_l.al
 go_wp2_with fail
 with_reducible refine (KPi_8 _).mono ?_
 rintro e v3 ⟨A7, n7, c7, A8, n8, c8, rfl, z7, z8, hb1⟩
 obtain ⟨x_l, z5, z6⟩ := mv3 hb1 x_l z5 z6
 replace hb := bthen hb hb1
 clear hb1
 replace q_l := x_l.al
 have y_l := ((x_l.alloc (.cells #[.bool (ngB 804), .slice A7 n7 c7, .bool (ngB 805), .slice A8 n8 c8, .int .i64 8] 27))).al
 go_wp2_with fail
 clear y_l
 have hb1 := below_alloc v3 (.cells #[.bool (ngB 804), .slice A7 n7 c7, .bool (ngB 805), .slice A8 n8 c8, .int .i64 8] 27)
 have l_l_p := x_l.lt
 have x_p := Lx.new v3 (ngB 804) A7 n7 c7 (ngB 805) A8 n8 c8 8
 have e_p : w.heap.size ≤ v3.heap.size := hb.size
 clear q_l
 obtain ⟨x_l, z5, z6, z7, z8⟩ := mv5 hb1 x_l z5 z6 z7 z8
 replace hb := bthen hb hb1
 clear hb1
 generalize v3.alloc (.cells #[.bool (ngB 804), .slice A7 n7 c7, .bool (ngB 805), .slice A8 n8 c8, .int .i64 8] 27) = v4 at *
 have q_l := x_l.al
 have q_p := x_p.al
 skip
 with_reducible refine (ZText_any z5.zr (by omega)).mono ?_
 rintro e v5 ⟨rfl, hb1⟩
 obtain ⟨x_l, x_p, z5, z6, z7, z8⟩ := mv6 hb1 x_l x_p z5 z6 z7 z8
 replace hb := bthen hb hb1
 clear hb1
 replace q_l := x_l.al
 replace q_p := x_p.al
 rw [tx7_177]
 go_wp2_with fail
 with_reducible refine (ZText_any z6.zr (by omega)).mono ?_
 rintro e v6 ⟨rfl, hb1⟩
 obtain ⟨x_l, x_p, z5, z6, z7, z8⟩ := mv6 hb1 x_l x_p z5 z6 z7 z8
 replace hb := bthen hb hb1
 clear hb1
 replace q_l := x_l.al
 replace q_p := x_p.al
 rw [tx7_178]
 go_wp2_with fail
 with_reducible refine (ZText_any z7.zr (by omega)).mono ?_
 rintro e v7 ⟨rfl, hb1⟩
 obtain ⟨x_l, x_p, z5, z6, z7, z8⟩ := mv6 hb1 x_l x_p z5 z6 z7 z8
 replace hb := bthen hb hb1
 clear hb1
 replace q_l := x_l.al
 replace q_p := x_p.al
 rw [tx7_804]
 go_wp2_with fail
 with_reducible refine (ZText_any z8.zr (by omega)).mono ?_
 rintro e v8 ⟨rfl, hb1⟩
 obtain ⟨x_l, x_p, z5, z6, z7, z8⟩ := mv6 hb1 x_l x_p z5 z6 z7 z8
 replace hb := bthen hb hb1
 clear hb1
 replace q_l := x_l.al
 replace q_p := x_p.al
 rw [tx7_805]
 go_wp2
 go_ret
 exact ⟨rfl, hb⟩

end Go.Proofs.YtiikmjnnlckiiaaGreat
namespace Go.Proofs.YtiikmjnnlckiiaaGreat
open Go.RowKit
set_option linter.unusedVariables false

theorem LEqual_nul (w : World) : Calls Tryz.prog 9 #[.agg #[.bool false, .slice none 0 0, .bool false, .slice none 0 0, .int .i64 0], .agg #[.bool false, .slice none 0 0, .bool false, .slice none 0 0, .int .i64 0]] w fun e w' => e = .returned (.bool true) ∧ Below w.heap.size w w' :=
 LEqual_any (X := 0) (Y := 0) (q := 0) (Zn.nul w 0) (Zn.nul w 0) (Zn.nul w 0) (Zn.nul w 0)
set_option maxRecDepth 100000 in
set_option maxHeartbeats 32000000 in
theorem Tell_out {w : World} (q : Int) (h : 200 < q ∧ q ≤ 900 ∧ ¬ q % 200 = 0) :
  Calls Tryz.prog 3 #[.int .i64 q] w fun e w' => e = .returned (.bool true) ∧ Below w.heap.size w w' := by
 have hb := Below.refl w.heap.size w
 obtain ⟨h1, h2, h3⟩ := h
 have h4 : (q % 200 != 0) = true := by simpa using h3
 clear h3
 go_enter Tryz.func3, Tryz.ntmps3
 go_wp2_with fail
 with_reducible refine (Cshown_any).mono ?_
 rintro e v1 ⟨rfl, hb1⟩
 replace hb := bthen hb hb1
 clear hb1
 go_wp2
 go_ret
 exact ⟨rfl, hb⟩

set_option maxRecDepth 100000 in
set_option maxHeartbeats 32000000 in
theorem Tell_low {w : World} (q : Nat) (h : q ≤ 200) :
  Calls Tryz.prog 3 #[.int .i64 (q : Nat)] w fun e w' => e = .returned (.bool true) ∧ Below w.heap.size w w' := by
 have hb := Below.refl w.heap.size w
 have hq : q ≤ 900 := by omega
 have HQ := Lib.hid (show q < 256 ∨ q = 400 ∨ q = 600 ∨ q = 800 by omega)
 have HV := Lib.hid (v_in q HQ.out)
 have h1 : ¬ 200 < (q : Int) := by omega
 obtain ⟨LA, hLA⟩ : ∃ e, lnA q = e := ⟨_, rfl⟩
 obtain ⟨LZ, hLZ⟩ : ∃ e, lnZ q = e := ⟨_, rfl⟩
 obtain ⟨PA, hPA⟩ : ∃ e, piA q = e := ⟨_, rfl⟩
 obtain ⟨PZ, hPZ⟩ : ∃ e, piZ q = e := ⟨_, rfl⟩
 have HLA := Lib.hid hLA; clear hLA
 have HLZ := Lib.hid hLZ; clear hLZ
 have HPA := Lib.hid hPA; clear hPA
 have HPZ := Lib.hid hPZ; clear hPZ
 go_enter Tryz.func3, Tryz.ntmps3
 go_wp2_with fail
 with_reducible refine (Cshown_any).mono ?_
 rintro e v1 ⟨rfl, hb1⟩
 replace hb := bthen hb hb1
 clear hb1
 go_wp2_with fail
 with_reducible refine (KLn2_yes q _ HQ.out).mono ?_
 rintro e v2 ⟨A10, n10, c10, A11, n11, c11, rfl, z10, z11, hb1⟩
 replace hb := bthen hb hb1
 clear hb1
 rw [HLA.out] at z10 ⊢; rw [HLZ.out] at z11 ⊢
 go_wp2_with fail
 have hb1 := below_alloc v2 (.cells #[.bool (ngB LA), .slice A10 n10 c10, .bool (ngB LZ), .slice A11 n11 c11, .int .i64 (q : Int)] 27)
 have x_a := Lx.new v2 (ngB LA) A10 n10 c10 (ngB LZ) A11 n11 c11 (q : Int)
 have e_a : w.heap.size ≤ v2.heap.size := hb.size
 obtain ⟨z10, z11⟩ := mv2 hb1 z10 z11
 replace hb := bthen hb hb1
 clear hb1
 generalize v2.alloc (.cells #[.bool (ngB LA), .slice A10 n10 c10, .bool (ngB LZ), .slice A11 n11 c11, .int .i64 (q : Int)] 27) = v3 at *
 have q_a := x_a.al
 go_wp2_with fail
 with_reducible refine (RLn2_yes q _ hq HV.out.1).mono ?_
 rintro e v4 ⟨A12, n12, c12, A13, n13, c13, rfl, z12, z13, hb1⟩
 obtain ⟨x_a, z10, z11⟩ := mv3 hb1 x_a z10 z11
 replace hb := bthen hb hb1
 clear hb1
 replace q_a := x_a.al
 rw [HLA.out] at z12 ⊢; rw [HLZ.out] at z13 ⊢
 have y_a := ((x_a.alloc (.cells #[.bool (ngB LA), .slice A12 n12 c12, .bool (ngB LZ), .slice A13 n13 c13, .int .i64 (q : Int)] 27))).al
 go_wp2_with fail
 clear y_a
 have hb1 := below_alloc v4 (.cells #[.bool (ngB LA), .slice A12 n12 c12, .bool (ngB LZ), .slice A13 n13 c13, .int .i64 (q : Int)] 27)
 have l_a_b := x_a.lt
 have x_b := Lx.new v4 (ngB LA) A12 n12 c12 (ngB LZ) A13 n13 c13 (q : Int)
 have e_b : w.heap.size ≤ v4.heap.size := hb.size
 clear q_a
 obtain ⟨x_a, z10, z11, z12, z13⟩ := mv5 hb1 x_a z10 z11 z12 z13
 replace hb := bthen hb hb1
 clear hb1
 generalize v4.alloc (.cells #[.bool (ngB LA), .slice A12 n12 c12, .bool (ngB LZ), .slice A13 n13 c13, .int .i64 (q : Int)] 27) = v5 at *
 have q_a := x_a.al
 have q_b := x_b.al
 go_wp2_with fail
 with_reducible refine (KPi_yes q _ HQ.out).mono ?_
 rintro e v6 ⟨A14, n14, c14, A15, n15, c15, rfl, z14, z15, hb1⟩
 obtain ⟨x_a, x_b, z10, z11, z12, z13⟩ := mv6 hb1 x_a x_b z10 z11 z12 z13
 replace hb := bthen hb hb1
 clear hb1
 replace q_a := x_a.al
 replace q_b := x_b.al
 rw [HPA.out] at z14 ⊢; rw [HPZ.out] at z15 ⊢
 have y_a := ((x_a.alloc (.cells #[.bool (ngB PA), .slice A14 n14 c14, .bool (ngB PZ), .slice A15 n15 c15, .int .i64 (q : Int)] 27))).al
 have y_b := ((x_b.alloc (.cells #[.bool (ngB PA), .slice A14 n14 c14, .bool (ngB PZ), .slice A15 n15 c15, .int .i64 (q : Int)] 27))).al
 go_wp2_with fail
 clear y_a y_b
 have hb1 := below_alloc v6 (.cells #[.bool (ngB PA), .slice A14 n14 c14, .bool (ngB PZ), .slice A15 n15 c15, .int .i64 (q : Int)] 27)
 have l_a_c := x_a.lt
 have l_b_c := x_b.lt
 have x_c := Lx.new v6 (ngB PA) A14 n14 c14 (ngB PZ) A15 n15 c15 (q : Int)
 have e_c : w.heap.size ≤ v6.heap.size := hb.size
 clear q_a q_b
 obtain ⟨x_a, x_b, z10, z11, z12, z13, z14, z15⟩ := mv8 hb1 x_a x_b z10 z11 z12 z13 z14 z15
 replace hb := bthen hb hb1
 clear hb1
 generalize v6.alloc (.cells #[.bool (ngB PA), .slice A14 n14 c14, .bool (ngB PZ), .slice A15 n15 c15, .int .i64 (q : Int)] 27) = v7 at *
 have q_a := x_a.al
 have q_b := x_b.al
 have q_c := x_c.al
 go_wp2_with fail
 with_reducible refine (RPi_yes q _ hq HV.out.2.1 HV.out.2.2).mono ?_
 rintro e v8 ⟨A16, n16, c16, A17, n17, c17, rfl, z16, z17, hb1⟩
 obtain ⟨x_a, x_b, x_c, z10, z11, z12, z13, z14, z15⟩ := mv9 hb1 x_a x_b x_c z10 z11 z12 z13 z14 z15
 replace hb := bthen hb hb1
 clear hb1
 replace q_a := x_a.al
 replace q_b := x_b.al
 replace q_c := x_c.al
 rw [HPA.out] at z16 ⊢; rw [HPZ.out] at z17 ⊢
 have y_a := ((x_a.alloc (.cells #[.bool (ngB PA), .slice A16 n16 c16, .bool (ngB PZ), .slice A17 n17 c17, .int .i64 (q : Int)] 27))).al
 have y_b := ((x_b.alloc (.cells #[.bool (ngB PA), .slice A16 n16 c16, .bool (ngB PZ), .slice A17 n17 c17, .int .i64 (q : Int)] 27))).al
 have y_c := ((x_c.alloc (.cells #[.bool (ngB PA), .slice A16 n16 c16, .bool (ngB PZ), .slice A17 n17 c17, .int .i64 (q : Int)] 27))).al
 go_wp2_with fail
 clear y_a y_b y_c
 have hb1 := below_alloc v8 (.cells #[.bool (ngB PA), .slice A16 n16 c16, .bool (ngB PZ), .slice A17 n17 c17, .int .i64 (q : Int)] 27)
 have l_a_d := x_a.lt
 have l_b_d := x_b.lt
 have l_c_d := x_c.lt
 have x_d := Lx.new v8 (ngB PA) A16 n16 c16 (ngB PZ) A17 n17 c17 (q : Int)
 have e_d : w.heap.size ≤ v8.heap.size := hb.size
 clear q_a q_b q_c
 obtain ⟨x_a, x_b, x_c, z10, z11, z12, z13, z14, z15⟩ := mv9 hb1 x_a x_b x_c z10 z11 z12 z13 z14 z15
 obtain ⟨z16, z17⟩ := mv2 hb1 z16 z17
 replace hb := bthen hb hb1
 clear hb1
 generalize v8.alloc (.cells #[.bool (ngB PA), .slice A16 n16 c16, .bool (ngB PZ), .slice A17 n17 c17, .int .i64 (q : Int)] 27) = v9 at *
 have q_a := x_a.al
 have q_b := x_b.al
 have q_c := x_c.al
 have q_d := x_d.al
 skip
 with_reducible refine (LEqual_any z10 z11 z12 z13).mono ?_
 rintro e v10 ⟨rfl, hb1⟩
 obtain ⟨x_a, x_b, x_c, x_d, z10, z11, z12, z13, z14⟩ := mv9 hb1 x_a x_b x_c x_d z10 z11 z12 z13 z14
 obtain ⟨z15, z16, z17⟩ := mv3 hb1 z15 z16 z17
 replace hb := bthen hb hb1
 clear hb1
 replace q_a := x_a.al
 replace q_b := x_b.al
 replace q_c := x_c.al
 replace q_d := x_d.al
 go_wp2_with fail
 with_reducible refine (LEqual_any z14 z15 z16 z17).mono ?_
 rintro e v11 ⟨rfl, hb1⟩
 obtain ⟨x_a, x_b, x_c, x_d, z10, z11, z12, z13, z14⟩ := mv9 hb1 x_a x_b x_c x_d z10 z11 z12 z13 z14
 obtain ⟨z15, z16, z17⟩ := mv3 hb1 z15 z16 z17
 replace hb := bthen hb hb1
 clear hb1
 replace q_a := x_a.al
 replace q_b := x_b.al
 replace q_c := x_c.al
 replace q_d := x_d.al
 go_wp2
 go_ret
 exact ⟨rfl, hb⟩

set_option maxRecDepth 100000 in
set_option maxHeartbeats 32000000 in
theorem Tell_some {w : World} (q : Nat) (h : q = 400 ∨ q = 600 ∨ q = 800) :
  Calls Tryz.prog 3 #[.int .i64 (q : Nat)] w fun e w' => e = .returned (.bool true) ∧ Below w.heap.size w w' := by
 have hb := Below.refl w.heap.size w
 have hq : q ≤ 900 := by omega
 have HQ := Lib.hid (show q < 256 ∨ q = 400 ∨ q = 600 ∨ q = 800 by omega)
 have HV := Lib.hid (v_in q HQ.out)
 have h1 : 200 < (q : Int) := by omega
 have h2 : (q : Int) ≤ 900 := by omega
 have h4 : ((q : Int) % 200 != 0) = false := by rcases h with rfl | rfl | rfl <;> rfl
 clear h
 obtain ⟨LA, hLA⟩ : ∃ e, lnA q = e := ⟨_, rfl⟩
 obtain ⟨LZ, hLZ⟩ : ∃ e, lnZ q = e := ⟨_, rfl⟩
 obtain ⟨PA, hPA⟩ : ∃ e, piA q = e := ⟨_, rfl⟩
 obtain ⟨PZ, hPZ⟩ : ∃ e, piZ q = e := ⟨_, rfl⟩
 have HLA := Lib.hid hLA; clear hLA
 have HLZ := Lib.hid hLZ; clear hLZ
 have HPA := Lib.hid hPA; clear hPA
 have HPZ := Lib.hid hPZ; clear hPZ
 go_enter Tryz.func3, Tryz.ntmps3
 go_wp2_with fail
 with_reducible refine (Cshown_any).mono ?_
 rintro e v1 ⟨rfl, hb1⟩
 replace hb := bthen hb hb1
 clear hb1
 go_wp2_with fail
 with_reducible refine (KLn2_yes q _ HQ.out).mono ?_
 rintro e v2 ⟨A10, n10, c10, A11, n11, c11, rfl, z10, z11, hb1⟩
 replace hb := bthen hb hb1
 clear hb1
 rw [HLA.out] at z10 ⊢; rw [HLZ.out] at z11 ⊢
 go_wp2_with fail
 have hb1 := below_alloc v2 (.cells #[.bool (ngB LA), .slice A10 n10 c10, .bool (ngB LZ), .slice A11 n11 c11, .int .i64 (q : Int)] 27)
 have x_a := Lx.new v2 (ngB LA) A10 n10 c10 (ngB LZ) A11 n11 c11 (q : Int)
 have e_a : w.heap.size ≤ v2.heap.size := hb.size
 obtain ⟨z10, z11⟩ := mv2 hb1 z10 z11
 replace hb := bthen hb hb1
 clear hb1
 generalize v2.alloc (.cells #[.bool (ngB LA), .slice A10 n10 c10, .bool (ngB LZ), .slice A11 n11 c11, .int .i64 (q : Int)] 27) = v3 at *
 have q_a := x_a.al
 go_wp2_with fail
 with_reducible refine (RLn2_yes q _ hq HV.out.1).mono ?_
 rintro e v4 ⟨A12, n12, c12, A13, n13, c13, rfl, z12, z13, hb1⟩
 obtain ⟨x_a, z10, z11⟩ := mv3 hb1 x_a z10 z11
 replace hb := bthen hb hb1
 clear hb1
 replace q_a := x_a.al
 rw [HLA.out] at z12 ⊢; rw [HLZ.out] at z13 ⊢
 have y_a := ((x_a.alloc (.cells #[.bool (ngB LA), .slice A12 n12 c12, .bool (ngB LZ), .slice A13 n13 c13, .int .i64 (q : Int)] 27))).al
 go_wp2_with fail
 clear y_a
 have hb1 := below_alloc v4 (.cells #[.bool (ngB LA), .slice A12 n12 c12, .bool (ngB LZ), .slice A13 n13 c13, .int .i64 (q : Int)] 27)
 have l_a_b := x_a.lt
 have x_b := Lx.new v4 (ngB LA) A12 n12 c12 (ngB LZ) A13 n13 c13 (q : Int)
 have e_b : w.heap.size ≤ v4.heap.size := hb.size
 clear q_a
 obtain ⟨x_a, z10, z11, z12, z13⟩ := mv5 hb1 x_a z10 z11 z12 z13
 replace hb := bthen hb hb1
 clear hb1
 generalize v4.alloc (.cells #[.bool (ngB LA), .slice A12 n12 c12, .bool (ngB LZ), .slice A13 n13 c13, .int .i64 (q : Int)] 27) = v5 at *
 have q_a := x_a.al
 have q_b := x_b.al
 go_wp2_with fail
 with_reducible refine (KPi_yes q _ HQ.out).mono ?_
 rintro e v6 ⟨A14, n14, c14, A15, n15, c15, rfl, z14, z15, hb1⟩
 obtain ⟨x_a, x_b, z10, z11, z12, z13⟩ := mv6 hb1 x_a x_b z10 z11 z12 z13
 replace hb := bthen hb hb1
 clear hb1
 replace q_a := x_a.al
 replace q_b := x_b.al
 rw [HPA.out] at z14 ⊢; rw [HPZ.out] at z15 ⊢
 have y_a := ((x_a.alloc (.cells #[.bool (ngB PA), .slice A14 n14 c14, .bool (ngB PZ), .slice A15 n15 c15, .int .i64 (q : Int)] 27))).al
 have y_b := ((x_b.alloc (.cells #[.bool (ngB PA), .slice A14 n14 c14, .bool (ngB PZ), .slice A15 n15 c15, .int .i64 (q : Int)] 27))).al
 go_wp2_with fail
 clear y_a y_b
 have hb1 := below_alloc v6 (.cells #[.bool (ngB PA), .slice A14 n14 c14, .bool (ngB PZ), .slice A15 n15 c15, .int .i64 (q : Int)] 27)
 have l_a_c := x_a.lt
 have l_b_c := x_b.lt
 have x_c := Lx.new v6 (ngB PA) A14 n14 c14 (ngB PZ) A15 n15 c15 (q : Int)
 have e_c : w.heap.size ≤ v6.heap.size := hb.size
 clear q_a q_b
 obtain ⟨x_a, x_b, z10, z11, z12, z13, z14, z15⟩ := mv8 hb1 x_a x_b z10 z11 z12 z13 z14 z15
 replace hb := bthen hb hb1
 clear hb1
 generalize v6.alloc (.cells #[.bool (ngB PA), .slice A14 n14 c14, .bool (ngB PZ), .slice A15 n15 c15, .int .i64 (q : Int)] 27) = v7 at *
 have q_a := x_a.al
 have q_b := x_b.al
 have q_c := x_c.al
 go_wp2_with fail
 with_reducible refine (RPi_yes q _ hq HV.out.2.1 HV.out.2.2).mono ?_
 rintro e v8 ⟨A16, n16, c16, A17, n17, c17, rfl, z16, z17, hb1⟩
 obtain ⟨x_a, x_b, x_c, z10, z11, z12, z13, z14, z15⟩ := mv9 hb1 x_a x_b x_c z10 z11 z12 z13 z14 z15
 replace hb := bthen hb hb1
 clear hb1
 replace q_a := x_a.al
 replace q_b := x_b.al
 replace q_c := x_c.al
 rw [HPA.out] at z16 ⊢; rw [HPZ.out] at z17 ⊢
 have y_a := ((x_a.alloc (.cells #[.bool (ngB PA), .slice A16 n16 c16, .bool (ngB PZ), .slice A17 n17 c17, .int .i64 (q : Int)] 27))).al
 have y_b := ((x_b.alloc (.cells #[.bool (ngB PA), .slice A16 n16 c16, .bool (ngB PZ), .slice A17 n17 c17, .int .i64 (q : Int)] 27))).al
 have y_c := ((x_c.alloc (.cells #[.bool (ngB PA), .slice A16 n16 c16, .bool (ngB PZ), .slice A17 n17 c17, .int .i64 (q : Int)] 27))).al
 go_wp2_with fail
 clear y_a y_b y_c
 have hb1 := below_alloc v8 (.cells #[.bool (ngB PA), .slice A16 n16 c16, .bool (ngB PZ), .slice A17 n17 c17, .int .i64 (q : Int)] 27)
 have l_a_d := x_a.lt
 have l_b_d := x_b.lt
 have l_c_d := x_c.lt
 have x_d := Lx.new v8 (ngB PA) A16 n16 c16 (ngB PZ) A17 n17 c17 (q : Int)
 have e_d : w.heap.size ≤ v8.heap.size := hb.size
 clear q_a q_b q_c
 obtain ⟨x_a, x_b, x_c, z10, z11, z12, z13, z14, z15⟩ := mv9 hb1 x_a x_b x_c z10 z11 z12 z13 z14 z15
 obtain ⟨z16, z17⟩ := mv2 hb1 z16 z17
 replace hb := bthen hb hb1
 clear hb1
 generalize v8.alloc (.cells #[.bool (ngB PA), .slice A16 n16 c16, .bool (ngB PZ), .slice A17 n17 c17, .int .i64 (q : Int)] 27) = v9 at *
 have q_a := x_a.al
 have q_b := x_b.al
 have q_c := x_c.al
 have q_d := x_d.al
 skip
 with_reducible refine (LEqual_any z10 z11 z12 z13).mono ?_
 rintro e v10 ⟨rfl, hb1⟩
 obtain ⟨x_a, x_b, x_c, x_d, z10, z11, z12, z13, z14⟩ := mv9 hb1 x_a x_b x_c x_d z10 z11 z12 z13 z14
 obtain ⟨z15, z16, z17⟩ := mv3 hb1 z15 z16 z17
 replace hb := bthen hb hb1
 clear hb1
 replace q_a := x_a.al
 replace q_b := x_b.al
 replace q_c := x_c.al
 replace q_d := x_d.al
 go_wp2_with fail
 with_reducible refine (LEqual_any z14 z15 z16 z17).mono ?_
 rintro e v11 ⟨rfl, hb1⟩
 obtain ⟨x_a, x_b, x_c, x_d, z10, z11, z12, z13, z14⟩ := mv9 hb1 x_a x_b x_c x_d z10 z11 z12 z13 z14
 obtain ⟨z15, z16, z17⟩ := mv3 hb1 z15 z16 z17
 replace hb := bthen hb hb1
 clear hb1
 replace q_a := x_a.al
 replace q_b := x_b.al
 replace q_c := x_c.al
 replace q_d := x_d.al
 go_wp2
 go_ret
 exact ⟨rfl, hb⟩

set_option maxRecDepth 100000 in
set_option maxHeartbeats 32000000 in
theorem Tell_no {w : World} (q : Int) (h : ¬ (0 ≤ q ∧ q ≤ 900)) :
  Calls Tryz.prog 3 #[.int .i64 q] w fun e w' => e = .returned (.bool true) ∧ Below w.heap.size w w' := by
 have hb := Below.refl w.heap.size w
 have HQ := Lib.hid h
 rcases (show q < 0 ∨ 900 < q by omega) with h5 | h5
 ·have h1 : ¬ 200 < q := by omega
  clear h h5
  skip
  go_enter Tryz.func3, Tryz.ntmps3
  go_wp2_with fail
  with_reducible refine (Cshown_any).mono ?_
  rintro e v1 ⟨rfl, hb1⟩
  replace hb := bthen hb hb1
  clear hb1
  go_wp2_with fail
  with_reducible refine (KLn2_no q _ HQ.out).mono ?_
  rintro e v2 ⟨rfl, hb1⟩
  replace hb := bthen hb hb1
  clear hb1
  go_wp2_with fail
  have hb1 := below_alloc v2 (.cells #[.bool false, .slice none 0 0, .bool false, .slice none 0 0, .int .i64 0] 27)
  have x_a := Lx.new v2 false none 0 0 false none 0 0 0
  have e_a : w.heap.size ≤ v2.heap.size := hb.size
  replace hb := bthen hb hb1
  clear hb1
  generalize v2.alloc (.cells #[.bool false, .slice none 0 0, .bool false, .slice none 0 0, .int .i64 0] 27) = v3 at *
  have q_a := x_a.al
  go_wp2_with fail
  with_reducible refine (RLn2_no q _ HQ.out).mono ?_
  rintro e v4 ⟨rfl, hb1⟩
  replace x_a := x_a.keep hb1
  replace hb := bthen hb hb1
  clear hb1
  replace q_a := x_a.al
  have y_a := ((x_a.alloc (.cells #[.bool false, .slice none 0 0, .bool false, .slice none 0 0, .int .i64 0] 27))).al
  go_wp2_with fail
  clear y_a
  have hb1 := below_alloc v4 (.cells #[.bool false, .slice none 0 0, .bool false, .slice none 0 0, .int .i64 0] 27)
  have l_a_b := x_a.lt
  have x_b := Lx.new v4 false none 0 0 false none 0 0 0
  have e_b : w.heap.size ≤ v4.heap.size := hb.size
  clear q_a
  replace x_a := x_a.keep hb1
  replace hb := bthen hb hb1
  clear hb1
  generalize v4.alloc (.cells #[.bool false, .slice none 0 0, .bool false, .slice none 0 0, .int .i64 0] 27) = v5 at *
  have q_a := x_a.al
  have q_b := x_b.al
  go_wp2_with fail
  with_reducible refine (KPi_no q _ HQ.out).mono ?_
  rintro e v6 ⟨rfl, hb1⟩
  obtain ⟨x_a, x_b⟩ := mv2 hb1 x_a x_b
  replace hb := bthen hb hb1
  clear hb1
  replace q_a := x_a.al
  replace q_b := x_b.al
  have y_a := ((x_a.alloc (.cells #[.bool false, .slice none 0 0, .bool false, .slice none 0 0, .int .i64 0] 27))).al
  have y_b := ((x_b.alloc (.cells #[.bool false, .slice none 0 0, .bool false, .slice none 0 0, .int .i64 0] 27))).al
  go_wp2_with fail
  clear y_a y_b
  have hb1 := below_alloc v6 (.cells #[.bool false, .slice none 0 0, .bool false, .slice none 0 0, .int .i64 0] 27)
  have l_a_c := x_a.lt
  have l_b_c := x_b.lt
  have x_c := Lx.new v6 false none 0 0 false none 0 0 0
  have e_c : w.heap.size ≤ v6.heap.size := hb.size
  clear q_a q_b
  obtain ⟨x_a, x_b⟩ := mv2 hb1 x_a x_b
  replace hb := bthen hb hb1
  clear hb1
  generalize v6.alloc (.cells #[.bool false, .slice none 0 0, .bool false, .slice none 0 0, .int .i64 0] 27) = v7 at *
  have q_a := x_a.al
  have q_b := x_b.al
  have q_c := x_c.al
  go_wp2_with fail
  with_reducible refine (RPi_no q _ HQ.out).mono ?_
  rintro e v8 ⟨rfl, hb1⟩
  obtain ⟨x_a, x_b, x_c⟩ := mv3 hb1 x_a x_b x_c
  replace hb := bthen hb hb1
  clear hb1
  replace q_a := x_a.al
  replace q_b := x_b.al
  replace q_c := x_c.al
  have y_a := ((x_a.alloc (.cells #[.bool false, .slice none 0 0, .bool false, .slice none 0 0, .int .i64 0] 27))).al
  have y_b := ((x_b.alloc (.cells #[.bool false, .slice none 0 0, .bool false, .slice none 0 0, .int .i64 0] 27))).al
  have y_c := ((x_c.alloc (.cells #[.bool false, .slice none 0 0, .bool false, .slice none 0 0, .int .i64 0] 27))).al
  go_wp2_with fail
  clear y_a y_b y_c
  have hb1 := below_alloc v8 (.cells #[.bool false, .slice none 0 0, .bool false, .slice none 0 0, .int .i64 0] 27)
  have l_a_d := x_a.lt
  have l_b_d := x_b.lt
  have l_c_d := x_c.lt
  have x_d := Lx.new v8 false none 0 0 false none 0 0 0
  have e_d : w.heap.size ≤ v8.heap.size := hb.size
  clear q_a q_b q_c
  obtain ⟨x_a, x_b, x_c⟩ := mv3 hb1 x_a x_b x_c
  replace hb := bthen hb hb1
  clear hb1
  generalize v8.alloc (.cells #[.bool false, .slice none 0 0, .bool false, .slice none 0 0, .int .i64 0] 27) = v9 at *
  have q_a := x_a.al
  have q_b := x_b.al
  have q_c := x_c.al
  have q_d := x_d.al
  skip
  with_reducible refine (LEqual_nul _).mono ?_
  rintro e v10 ⟨rfl, hb1⟩
  obtain ⟨x_a, x_b, x_c, x_d⟩ := mv4 hb1 x_a x_b x_c x_d
  replace hb := bthen hb hb1
  clear hb1
  replace q_a := x_a.al
  replace q_b := x_b.al
  replace q_c := x_c.al
  replace q_d := x_d.al
  go_wp2_with fail
  with_reducible refine (LEqual_nul _).mono ?_
  rintro e v11 ⟨rfl, hb1⟩
  obtain ⟨x_a, x_b, x_c, x_d⟩ := mv4 hb1 x_a x_b x_c x_d
  replace hb := bthen hb hb1
  clear hb1
  replace q_a := x_a.al
  replace q_b := x_b.al
  replace q_c := x_c.al
  replace q_d := x_d.al
  go_wp2
  go_ret
  exact ⟨rfl, hb⟩
 ·have h1 : 200 < q := by omega
  have h2 : ¬ q ≤ 900 := by omega
  clear h h5
  go_enter Tryz.func3, Tryz.ntmps3
  go_wp2_with fail
  with_reducible refine (Cshown_any).mono ?_
  rintro e v1 ⟨rfl, hb1⟩
  replace hb := bthen hb hb1
  clear hb1
  go_wp2_with fail
  with_reducible refine (KLn2_no q _ HQ.out).mono ?_
  rintro e v2 ⟨rfl, hb1⟩
  replace hb := bthen hb hb1
  clear hb1
  go_wp2_with fail
  have hb1 := below_alloc v2 (.cells #[.bool false, .slice none 0 0, .bool false, .slice none 0 0, .int .i64 0] 27)
  have x_a := Lx.new v2 false none 0 0 false none 0 0 0
  have e_a : w.heap.size ≤ v2.heap.size := hb.size
  replace hb := bthen hb hb1
  clear hb1
  generalize v2.alloc (.cells #[.bool false, .slice none 0 0, .bool false, .slice none 0 0, .int .i64 0] 27) = v3 at *
  have q_a := x_a.al
  go_wp2_with fail
  with_reducible refine (RLn2_no q _ HQ.out).mono ?_
  rintro e v4 ⟨rfl, hb1⟩
  replace x_a := x_a.keep hb1
  replace hb := bthen hb hb1
  clear hb1
  replace q_a := x_a.al
  have y_a := ((x_a.alloc (.cells #[.bool false, .slice none 0 0, .bool false, .slice none 0 0, .int .i64 0] 27))).al
  go_wp2_with fail
  clear y_a
  have hb1 := below_alloc v4 (.cells #[.bool false, .slice none 0 0, .bool false, .slice none 0 0, .int .i64 0] 27)
  have l_a_b := x_a.lt
  have x_b := Lx.new v4 false none 0 0 false none 0 0 0
  have e_b : w.heap.size ≤ v4.heap.size := hb.size
  clear q_a
  replace x_a := x_a.keep hb1
  replace hb := bthen hb hb1
  clear hb1
  generalize v4.alloc (.cells #[.bool false, .slice none 0 0, .bool false, .slice none 0 0, .int .i64 0] 27) = v5 at *
  have q_a := x_a.al
  have q_b := x_b.al
  go_wp2_with fail
  with_reducible refine (KPi_no q _ HQ.out).mono ?_
  rintro e v6 ⟨rfl, hb1⟩
  obtain ⟨x_a, x_b⟩ := mv2 hb1 x_a x_b
  replace hb := bthen hb hb1
  clear hb1
  replace q_a := x_a.al
  replace q_b := x_b.al
  have y_a := ((x_a.alloc (.cells #[.bool false, .slice none 0 0, .bool false, .slice none 0 0, .int .i64 0] 27))).al
  have y_b := ((x_b.alloc (.cells #[.bool false, .slice none 0 0, .bool false, .slice none 0 0, .int .i64 0] 27))).al
  go_wp2_with fail
  clear y_a y_b
  have hb1 := below_alloc v6 (.cells #[.bool false, .slice none 0 0, .bool false, .slice none 0 0, .int .i64 0] 27)
  have l_a_c := x_a.lt
  have l_b_c := x_b.lt
  have x_c := Lx.new v6 false none 0 0 false none 0 0 0
  have e_c : w.heap.size ≤ v6.heap.size := hb.size
  clear q_a q_b
  obtain ⟨x_a, x_b⟩ := mv2 hb1 x_a x_b
  replace hb := bthen hb hb1
  clear hb1
  generalize v6.alloc (.cells #[.bool false, .slice none 0 0, .bool false, .slice none 0 0, .int .i64 0] 27) = v7 at *
  have q_a := x_a.al
  have q_b := x_b.al
  have q_c := x_c.al
  go_wp2_with fail
  with_reducible refine (RPi_no q _ HQ.out).mono ?_
  rintro e v8 ⟨rfl, hb1⟩
  obtain ⟨x_a, x_b, x_c⟩ := mv3 hb1 x_a x_b x_c
  replace hb := bthen hb hb1
  clear hb1
  replace q_a := x_a.al
  replace q_b := x_b.al
  replace q_c := x_c.al
  have y_a := ((x_a.alloc (.cells #[.bool false, .slice none 0 0, .bool false, .slice none 0 0, .int .i64 0] 27))).al
  have y_b := ((x_b.alloc (.cells #[.bool false, .slice none 0 0, .bool false, .slice none 0 0, .int .i64 0] 27))).al
  have y_c := ((x_c.alloc (.cells #[.bool false, .slice none 0 0, .bool false, .slice none 0 0, .int .i64 0] 27))).al
  go_wp2_with fail
  clear y_a y_b y_c
  have hb1 := below_alloc v8 (.cells #[.bool false, .slice none 0 0, .bool false, .slice none 0 0, .int .i64 0] 27)
  have l_a_d := x_a.lt
  have l_b_d := x_b.lt
  have l_c_d := x_c.lt
  have x_d := Lx.new v8 false none 0 0 false none 0 0 0
  have e_d : w.heap.size ≤ v8.heap.size := hb.size
  clear q_a q_b q_c
  obtain ⟨x_a, x_b, x_c⟩ := mv3 hb1 x_a x_b x_c
  replace hb := bthen hb hb1
  clear hb1
  generalize v8.alloc (.cells #[.bool false, .slice none 0 0, .bool false, .slice none 0 0, .int .i64 0] 27) = v9 at *
  have q_a := x_a.al
  have q_b := x_b.al
  have q_c := x_c.al
  have q_d := x_d.al
  skip
  with_reducible refine (LEqual_nul _).mono ?_
  rintro e v10 ⟨rfl, hb1⟩
  obtain ⟨x_a, x_b, x_c, x_d⟩ := mv4 hb1 x_a x_b x_c x_d
  replace hb := bthen hb hb1
  clear hb1
  replace q_a := x_a.al
  replace q_b := x_b.al
  replace q_c := x_c.al
  replace q_d := x_d.al
  go_wp2_with fail
  with_reducible refine (LEqual_nul _).mono ?_
  rintro e v11 ⟨rfl, hb1⟩
  obtain ⟨x_a, x_b, x_c, x_d⟩ := mv4 hb1 x_a x_b x_c x_d
  replace hb := bthen hb hb1
  clear hb1
  replace q_a := x_a.al
  replace q_b := x_b.al
  replace q_c := x_c.al
  replace q_d := x_d.al
  go_wp2
  go_ret
  exact ⟨rfl, hb⟩

theorem ConstsTell_any {q : Int} {w : World} (hq : -9223372036854775808 ≤ q ∧ q ≤ 9223372036854775807) : Calls Tryz.prog 3 #[.int .i64 q] w fun e w' => e = .returned (.bool true) ∧ Below w.heap.size w w' := by
 by_cases h : 0 ≤ q ∧ q ≤ 900
 ·obtain ⟨n, rfl⟩ := Int.eq_ofNat_of_zero_le h.1
  by_cases h1 : n ≤ 200
  ·exact Tell_low n h1
  ·by_cases h2 : (n : Int) % 200 = 0
   ·exact Tell_some n (by omega)
   ·exact Tell_out n ⟨by omega, h.2, h2⟩
 ·exact Tell_no q h
end Go.Proofs.YtiikmjnnlckiiaaGreat
