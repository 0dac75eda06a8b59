/-
 the laws of elem: shown.
-/
import Derived.Test.YtjlbngjeekdfcaaGreatDoorEsmall
import Derived.Test.YtjlbngjeekdfcaaGreatDoorPdx
namespace Go.Proofs.YtjlbngjeekdfcaaGreatDoor
set_option maxRecDepth 100000
set_option maxHeartbeats 4000000
set_option linter.unusedVariables false
open Go.RowKit
open MX (bLo bHi tA tZ xK xR xS yR yS uR uS gR gS hR hS wK wR wS vJ vKi vN vLo vHi nq Hd)
theorem tx8_256 : txL 256 = [50, 53, 54] := by
 unfold txL; rw [if_neg (by omega), show (256 : Int).natAbs = 256 by rfl, decL_big (by omega), decL_big (by omega), decL_small (by omega)]; rfl
theorem tx8_0 : txL 0 = [48] := by
 unfold txL; rw [if_neg (by omega), show (0 : Int).natAbs = 0 by rfl, decL_small (by omega)]; rfl
variable {b b2 b3 b4 : Bool} {A A2 A3 A4 : Option Addr} {n c n2 c2 n3 c3 n4 c4 j j2 : Nat} {X Y U V q e : Int} {w : World}
theorem Eis_256 (h : Zn w A n c 256 8) (h2 : Zn w A2 n2 c2 256 8) :
  Calls Tryz.prog 30 #[.agg #[.bool (ngB 256), .slice A n c, .bool (ngB 256), .slice A2 n2 c2, .int .i64 q], .string ⟨#[50, 53, 54]⟩, .string ⟨#[50, 53, 54]⟩] w (fun e w' => e = .returned (.bool true) ∧ Below w.heap.size w w') := by
 go_enter Tryz.func30, Tryz.ntmps30
 go_wp2_with fail
 refine al1c fun v1 hb x_b => ?_
 replace x_b := Lx.of x_b
 obtain ⟨h, h2⟩ := mv2 hb h h2
 have q_b := x_b.al
 go_wp2_with fail
 with_reducible refine (ZText_low h.zr (by omega) (by omega) (bl_le (by decide))).mono ?_
 rintro e v2 ⟨rfl, hb1⟩
 obtain ⟨x_b, h, h2, hb⟩ := mv4 hb1 x_b h h2 hb
 clear hb1
 replace q_b := x_b.al
 rw [tx8_256]
 go_wp2_with fail
 with_reducible refine (ZText_low h2.zr (by omega) (by omega) (bl_le (by decide))).mono ?_
 rintro e v3 ⟨rfl, hb1⟩
 obtain ⟨x_b, h, h2, hb⟩ := mv4 hb1 x_b h h2 hb
 clear hb1
 replace q_b := x_b.al
 rw [tx8_256]
 go_wp2
 go_ret
 exact ⟨rfl, hb⟩
theorem Eis_0 (h : Zn w A n c 0 8) (h2 : Zn w A2 n2 c2 0 8) :
  Calls Tryz.prog 30 #[.agg #[.bool (ngB 0), .slice A n c, .bool (ngB 0), .slice A2 n2 c2, .int .i64 q], .string ⟨#[48]⟩, .string ⟨#[48]⟩] w (fun e w' => e = .returned (.bool true) ∧ Below w.heap.size w w') := by
 go_enter Tryz.func30, Tryz.ntmps30
 go_wp2_with fail
 refine al1c fun v1 hb x_b => ?_
 replace x_b := Lx.of x_b
 obtain ⟨h, h2⟩ := mv2 hb h h2
 have q_b := x_b.al
 go_wp2_with fail
 with_reducible refine (ZText_low h.zr (by omega) (by omega) (bl_le (by decide))).mono ?_
 rintro e v2 ⟨rfl, hb1⟩
 obtain ⟨x_b, h, h2, hb⟩ := mv4 hb1 x_b h h2 hb
 clear hb1
 replace q_b := x_b.al
 rw [tx8_0]
 go_wp2_with fail
 with_reducible refine (ZText_low h2.zr (by omega) (by omega) (bl_le (by decide))).mono ?_
 rintro e v3 ⟨rfl, hb1⟩
 obtain ⟨x_b, h, h2, hb⟩ := mv4 hb1 x_b h h2 hb
 clear hb1
 replace q_b := x_b.al
 rw [tx8_0]
 go_wp2
 go_ret
 exact ⟨rfl, hb⟩
theorem wh_0 : od (cM 0 0) = 0 ∧ nE (cM 0 0) (cE 0) = 0 := by decide +kernel
theorem wh_1 : od (cM 1 0) = 1 ∧ nE (cM 1 0) (cE 0) = 0 := by decide +kernel
theorem wh_3 : od (cM (-3) 0) = -3 ∧ nE (cM (-3) 0) (cE 0) = 0 := by decide +kernel
theorem ar_1 : Ar 1 0 := ⟨by decide +kernel, by omega, by omega, by rw [c_rat, c_rat]; push_cast; grind⟩
theorem ar_3 : Ar (-3) 0 := ⟨by decide +kernel, by omega, by omega, by rw [c_rat, c_rat]; push_cast; grind⟩
theorem SAt_exp (h : Zn w A n c (0) 2) (hT : Tab w) : Calls Tryz.prog 29 #[.int .i64 0, .agg #[.bool (ngB (0)), .slice A n c, .int .i64 0], .int .i64 8] w (OuA w 256 256 8 (0)) := by
 have k := EAt0 (q := 8) (h.wide (by omega)).zr hT Sl.nul.ar (by omega)
 rw [sh_exp.1, sh_exp.2.1, sh_exp.2.2] at k
 exact k
theorem SAt_exp2 (h : Zn w A n c (-3) 2) (hT : Tab w) : Calls Tryz.prog 29 #[.int .i64 1, .agg #[.bool (ngB (-3)), .slice A n c, .int .i64 0], .int .i64 8] w (OuA w 256 256 8 (-3)) := by
 have k := EAt1 (q := 8) (h.wide (by omega)).zr hT ar_3 (by omega)
 rw [sh_exp2.2.1, sh_exp2.2.2, sh_exp2.1] at k
 exact k
theorem SAt_log (h : Zn w A n c (1) 2) (hT : Tab w) : Calls Tryz.prog 29 #[.int .i64 2, .agg #[.bool (ngB (1)), .slice A n c, .int .i64 0], .int .i64 8] w (OuA w 0 0 8 (0)) := by
 have k := EAt2 (q := 8) (h.wide (by omega)).zr hT ar_1 (by omega) (by omega) (by rw [sh_log.1]; omega)
 rw [sh_log.2.1, sh_log.2.2] at k
 exact k
theorem SAt_sin (h : Zn w A n c (0) 2) (hT : Tab w) : Calls Tryz.prog 29 #[.int .i64 4, .agg #[.bool (ngB (0)), .slice A n c, .int .i64 0], .int .i64 8] w (OuA w 0 0 8 (0)) := by
 have k := EAt4 (q := 8) (h.wide (by omega)).zr hT Sl.nul.ar (by omega)
 rw [sh_sin.1, sh_sin.2] at k
 exact k
theorem EtakesP_nul (h : Zn w A n c 0 2) :
  Calls Tryz.prog 160 #[.agg #[], .agg #[.bool (ngB 0), .slice A n c, .int .i64 0]] w (fun e' w' => e' = .returned (.bool false) ∧ Below w.heap.size w w') := by
 have HLG : Hid (lgI (cM 0 0) (cE 0) = 0 ∧ lgB (cM 0 0) = false ∧ sgnI (cM 0 0) = 0) := Lib.hid (by decide +kernel)
 go_enter Tryz.func160, Tryz.ntmps160
 go_wp2_with fail
 refine al2c fun v1 hb _ x_x => ?_
 replace x_x := Dx.of x_x
 replace h := Mv.mv h hb
 have q_x := x_x.al
 skip
 with_reducible refine (DLog_any h.zr (by omega)).mono ?_
 rintro e v2 ⟨rfl, hb1⟩
 obtain ⟨x_x, h, hb⟩ := mv3 hb1 x_x h hb
 clear hb1
 replace q_x := x_x.al
 rw [HLG.out.1, HLG.out.2.1]
 go_wp2_with fail
 with_reducible refine (DSign_any h.zr (by omega)).mono ?_
 rintro e v3 ⟨rfl, hb1⟩
 obtain ⟨x_x, h, hb⟩ := mv3 hb1 x_x h hb
 clear hb1
 replace q_x := x_x.al
 rw [HLG.out.2.2]
 go_wp2
 go_ret
 exact ⟨rfl, hb⟩
theorem SAt_no (h : Zn w A n c 0 2) :
  Calls Tryz.prog 29 #[.int .i64 2, .agg #[.bool (ngB 0), .slice A n c, .int .i64 0], .int .i64 8] w (fun e w' => e = .returned (.tuple #[.agg #[.bool false, .slice none 0 0, .bool false, .slice none 0 0, .int .i64 0], .int .i64 0, .int .i64 1]) ∧ Below w.heap.size w w') := by
 have m1 : ∀ w, (method 278 101 (.agg #[]) "hairline/elem.takes").run Tryz.prog w = .ok (160, .agg #[]) w := fun _ => by kernel_rfl
 go_enter Tryz.func29, Tryz.ntmps29
 go_wp2_with fail
 refine al2c fun v1 hb x_x x_r => ?_
 replace x_x := Dx.of x_x; replace x_r := Lx.of x_r
 replace h := Mv.mv h hb
 have q_x := x_x.al
 have q_r := x_r.al
 skip
 with_reducible refine (Efun2).mono ?_
 rintro e v2 ⟨rfl, hb1⟩
 obtain ⟨x_x, x_r, h, hb⟩ := mv4 hb1 x_x x_r h hb
 clear hb1
 replace q_x := x_x.al
 replace q_r := x_r.al
 go_wp2_with fail
 with_reducible refine (EtakesP_nul h).mono ?_
 rintro e v3 ⟨rfl, hb1⟩
 obtain ⟨x_x, x_r, h, hb⟩ := mv4 hb1 x_x x_r h hb
 clear hb1
 replace q_x := x_x.al
 replace q_r := x_r.al
 go_wp2
 clear q_x q_r
 refine x_r.st fun v4 hs hx => ?_
 obtain ⟨x_x, h, hb⟩ := ms3 hs ⟨by omega, trivial, by omega⟩ x_x h hb
 replace x_r := hx; clear hx hs
 have q_x := x_x.al
 have q_r := x_r.al
 skip
 refine bodyPost_ret (v := .tuple #[.agg #[.bool false, .slice none 0 0, .bool false, .slice none 0 0, .int .i64 0], .int .i64 0, .int .i64 1]) (by simp [results, Tryz.results29, go_sem, q_r]) rfl ?_
 exact ⟨rfl, hb⟩
theorem Eshown_any (hT : Tab w) :
  Calls Tryz.prog 8 #[] w (fun e w' => e = .returned (.bool true) ∧ Below w.heap.size w w') := by
 have hb := Below.refl w.heap.size w
 go_enter Tryz.func8, Tryz.ntmps8
 go_wp2_with fail
 with_reducible refine (Ewh_any hT 0 wh_0 (by omega)).mono ?_
 rintro e v1 ⟨A9, n9, c9, rfl, z9, hb1⟩
 obtain ⟨hT, hb⟩ := mv2 hb1 hT hb
 clear hb1
 go_wp2_with fail
 with_reducible refine (SAt_exp z9 hT).mono ?_
 rintro e v2 ⟨A11, n11, c11, A12, n12, c12, rfl, z11, z12, hb1⟩
 obtain ⟨hT, z9, hb⟩ := mv3 hb1 hT z9 hb
 clear hb1
 go_wp2_with fail
 have e_a : w.heap.size ≤ v2.heap.size := hb.size
 refine al1c fun v3 hb1 x_a => ?_
 replace x_a := Lx.of x_a
 obtain ⟨hT, z11, z12, hb⟩ := mv4 hb1 hT z11 z12 hb
 clear hb1
 have q_a := x_a.al
 skip
 go_wp2_with fail
 with_reducible refine (Ewh_any hT (-3) wh_3 (by omega)).mono ?_
 rintro e v4 ⟨A9, n9, c9, rfl, z9, hb1⟩
 obtain ⟨x_a, hT, z11, z12, hb⟩ := mv5 hb1 x_a hT z11 z12 hb
 clear hb1
 replace q_a := x_a.al
 go_wp2_with fail
 with_reducible refine (SAt_exp2 z9 hT).mono ?_
 rintro e v5 ⟨A13, n13, c13, A14, n14, c14, rfl, z13, z14, hb1⟩
 obtain ⟨x_a, hT, z11, z12, z9, hb⟩ := mv6 hb1 x_a hT z11 z12 z9 hb
 clear hb1
 replace q_a := x_a.al
 have y_a := ((x_a.alloc (.cells #[.bool (ngB 256), .slice A13 n13 c13, .bool (ngB 256), .slice A14 n14 c14, .int .i64 8] 31))).al
 go_wp2_with fail
 clear y_a
 have l_a_b := x_a.lt
 have e_b : w.heap.size ≤ v5.heap.size := hb.size
 clear q_a
 refine al1c fun v6 hb1 x_b => ?_
 replace x_b := Lx.of x_b
 obtain ⟨x_a, hT, z11, z12, z13, z14, hb⟩ := mv7 hb1 x_a hT z11 z12 z13 z14 hb
 clear hb1
 have q_a := x_a.al
 have q_b := x_b.al
 skip
 go_wp2_with fail
 with_reducible refine (Ewh_any hT 1 wh_1 (by omega)).mono ?_
 rintro e v7 ⟨A9, n9, c9, rfl, z9, hb1⟩
 obtain ⟨x_a, x_b, hT, z11, z12, z13, z14, hb⟩ := mv8 hb1 x_a x_b hT z11 z12 z13 z14 hb
 clear hb1
 replace q_a := x_a.al
 replace q_b := x_b.al
 go_wp2_with fail
 with_reducible refine (SAt_log z9 hT).mono ?_
 rintro e v8 ⟨A15, n15, c15, A16, n16, c16, rfl, z15, z16, hb1⟩
 obtain ⟨x_a, x_b, hT, z11, z12, z13, z14, z9, hb⟩ := mv9 hb1 x_a x_b hT z11 z12 z13 z14 z9 hb
 clear hb1
 replace q_a := x_a.al
 replace q_b := x_b.al
 have y_a := ((x_a.alloc (.cells #[.bool (ngB 0), .slice A15 n15 c15, .bool (ngB 0), .slice A16 n16 c16, .int .i64 8] 31))).al
 have y_b := ((x_b.alloc (.cells #[.bool (ngB 0), .slice A15 n15 c15, .bool (ngB 0), .slice A16 n16 c16, .int .i64 8] 31))).al
 go_wp2_with fail
 clear y_a y_b
 have l_a_c := x_a.lt
 have l_b_c := x_b.lt
 have e_c : w.heap.size ≤ v8.heap.size := hb.size
 clear q_a q_b
 refine al1c fun v9 hb1 x_c => ?_
 replace x_c := Lx.of x_c
 obtain ⟨x_a, x_b, hT, z11, z12, z13, z14, z15, z16⟩ := mv9 hb1 x_a x_b hT z11 z12 z13 z14 z15 z16
 replace hb := Mv.mv hb hb1
 clear hb1
 have q_a := x_a.al
 have q_b := x_b.al
 have q_c := x_c.al
 skip
 go_wp2_with fail
 with_reducible refine (Ewh_any hT 0 wh_0 (by omega)).mono ?_
 rintro e v10 ⟨A9, n9, c9, rfl, z9, hb1⟩
 obtain ⟨x_a, x_b, x_c, hT, z11, z12, z13, z14, z15⟩ := mv9 hb1 x_a x_b x_c hT z11 z12 z13 z14 z15
 obtain ⟨z16, hb⟩ := mv2 hb1 z16 hb
 clear hb1
 replace q_a := x_a.al
 replace q_b := x_b.al
 replace q_c := x_c.al
 go_wp2_with fail
 with_reducible refine (SAt_sin z9 hT).mono ?_
 rintro e v11 ⟨A17, n17, c17, A18, n18, c18, rfl, z17, z18, hb1⟩
 obtain ⟨x_a, x_b, x_c, hT, z11, z12, z13, z14, z15⟩ := mv9 hb1 x_a x_b x_c hT z11 z12 z13 z14 z15
 obtain ⟨z16, z9, hb⟩ := mv3 hb1 z16 z9 hb
 clear hb1
 replace q_a := x_a.al
 replace q_b := x_b.al
 replace q_c := x_c.al
 have y_a := ((x_a.alloc (.cells #[.bool (ngB 0), .slice A17 n17 c17, .bool (ngB 0), .slice A18 n18 c18, .int .i64 8] 31))).al
 have y_b := ((x_b.alloc (.cells #[.bool (ngB 0), .slice A17 n17 c17, .bool (ngB 0), .slice A18 n18 c18, .int .i64 8] 31))).al
 have y_c := ((x_c.alloc (.cells #[.bool (ngB 0), .slice A17 n17 c17, .bool (ngB 0), .slice A18 n18 c18, .int .i64 8] 31))).al
 go_wp2_with fail
 clear y_a y_b y_c
 have l_a_d := x_a.lt
 have l_b_d := x_b.lt
 have l_c_d := x_c.lt
 have e_d : w.heap.size ≤ v11.heap.size := hb.size
 clear q_a q_b q_c
 refine al1c fun v12 hb1 x_d => ?_
 replace x_d := Lx.of x_d
 obtain ⟨x_a, x_b, x_c, hT, z11, z12, z13, z14, z15⟩ := mv9 hb1 x_a x_b x_c hT z11 z12 z13 z14 z15
 obtain ⟨z16, z17, z18, hb⟩ := mv4 hb1 z16 z17 z18 hb
 clear hb1
 have q_a := x_a.al
 have q_b := x_b.al
 have q_c := x_c.al
 have q_d := x_d.al
 skip
 go_wp2_with fail
 with_reducible refine (Ewh_any hT 0 wh_0 (by omega)).mono ?_
 rintro e v13 ⟨A9, n9, c9, rfl, z9, hb1⟩
 obtain ⟨x_a, x_b, x_c, x_d, hT, z11, z12, z13, z14⟩ := mv9 hb1 x_a x_b x_c x_d hT z11 z12 z13 z14
 obtain ⟨z15, z16, z17, z18, hb⟩ := mv5 hb1 z15 z16 z17 z18 hb
 clear hb1
 replace q_a := x_a.al
 replace q_b := x_b.al
 replace q_c := x_c.al
 replace q_d := x_d.al
 go_wp2_with fail
 with_reducible refine (SAt_no z9).mono ?_
 rintro e v14 ⟨rfl, hb1⟩
 obtain ⟨x_a, x_b, x_c, x_d, hT, z11, z12, z13, z14⟩ := mv9 hb1 x_a x_b x_c x_d hT z11 z12 z13 z14
 obtain ⟨z15, z16, z17, z18, z9, hb⟩ := mv6 hb1 z15 z16 z17 z18 z9 hb
 clear hb1
 replace q_a := x_a.al
 replace q_b := x_b.al
 replace q_c := x_c.al
 replace q_d := x_d.al
 have y_a := ((x_a.alloc (.cells #[.bool false, .slice none 0 0, .bool false, .slice none 0 0, .int .i64 0] 31))).al
 have y_b := ((x_b.alloc (.cells #[.bool false, .slice none 0 0, .bool false, .slice none 0 0, .int .i64 0] 31))).al
 have y_c := ((x_c.alloc (.cells #[.bool false, .slice none 0 0, .bool false, .slice none 0 0, .int .i64 0] 31))).al
 have y_d := ((x_d.alloc (.cells #[.bool false, .slice none 0 0, .bool false, .slice none 0 0, .int .i64 0] 31))).al
 go_upto_region 6 with fail
 clear y_a y_b y_c y_d
 have l_a_e := x_a.lt
 have l_b_e := x_b.lt
 have l_c_e := x_c.lt
 have l_d_e := x_d.lt
 have e_e : w.heap.size ≤ v14.heap.size := hb.size
 clear q_a q_b q_c q_d
 refine al1 fun v15 hb1 x_e => ?_
 replace x_e := Lx.of x_e
 obtain ⟨x_a, x_b, x_c, x_d, hT, z11, z12, z13, z14⟩ := mv9 hb1 x_a x_b x_c x_d hT z11 z12 z13 z14
 obtain ⟨z15, z16, z17, z18, hb⟩ := mv5 hb1 z15 z16 z17 z18 hb
 clear hb1
 have q_a := x_a.al
 have q_b := x_b.al
 have q_c := x_c.al
 have q_d := x_d.al
 have q_e := x_e.al
 go_wp2_with fail
 with_reducible refine (Eis_256 z11 z12).mono ?_
 rintro e v16 ⟨rfl, hb1⟩
 obtain ⟨x_a, x_b, x_c, x_d, hT, z11, z12, z13, z14⟩ := mv9 hb1 x_a x_b x_c x_d hT z11 z12 z13 z14
 obtain ⟨z15, z16, z17, z18, hb⟩ := mv5 hb1 z15 z16 z17 z18 hb
 clear hb1
 replace q_a := x_a.al
 replace q_b := x_b.al
 replace q_c := x_c.al
 replace q_d := x_d.al
 go_wp2_with fail
 with_reducible refine (Eis_256 z13 z14).mono ?_
 rintro e v17 ⟨rfl, hb1⟩
 obtain ⟨x_a, x_b, x_c, x_d, hT, z11, z12, z13, z14⟩ := mv9 hb1 x_a x_b x_c x_d hT z11 z12 z13 z14
 obtain ⟨z15, z16, z17, z18, hb⟩ := mv5 hb1 z15 z16 z17 z18 hb
 clear hb1
 replace q_a := x_a.al
 replace q_b := x_b.al
 replace q_c := x_c.al
 replace q_d := x_d.al
 go_wp2_with fail
 with_reducible refine (Eis_0 z15 z16).mono ?_
 rintro e v18 ⟨rfl, hb1⟩
 obtain ⟨x_a, x_b, x_c, x_d, hT, z11, z12, z13, z14⟩ := mv9 hb1 x_a x_b x_c x_d hT z11 z12 z13 z14
 obtain ⟨z15, z16, z17, z18, hb⟩ := mv5 hb1 z15 z16 z17 z18 hb
 clear hb1
 replace q_a := x_a.al
 replace q_b := x_b.al
 replace q_c := x_c.al
 replace q_d := x_d.al
 go_wp2_with fail
 with_reducible refine (Eis_0 z17 z18).mono ?_
 rintro e v19 ⟨rfl, hb1⟩
 obtain ⟨x_a, x_b, x_c, x_d, hT, z11, z12, z13, z14⟩ := mv9 hb1 x_a x_b x_c x_d hT z11 z12 z13 z14
 obtain ⟨z15, z16, z17, z18, hb⟩ := mv5 hb1 z15 z16 z17 z18 hb
 clear hb1
 replace q_a := x_a.al
 replace q_b := x_b.al
 replace q_c := x_c.al
 replace q_d := x_d.al
 go_wp2
 go_ret
 exact ⟨rfl, hb⟩
end Go.Proofs.YtjlbngjeekdfcaaGreatDoor
