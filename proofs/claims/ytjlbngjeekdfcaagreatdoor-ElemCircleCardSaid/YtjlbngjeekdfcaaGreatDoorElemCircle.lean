/-
 The law ElemCircle, as a call.
-/
import Derived.Test.YtjlbngjeekdfcaaGreatDoorEshow
import Derived.Test.YtjlbngjeekdfcaaGreatDoorEval
import Derived.Test.YtjlbngjeekdfcaaGreatDoorLhas
import Derived.Test.YtjlbngjeekdfcaaGreatDoorLmeets
import Derived.Deep.DeepCutAuto
namespace Go.Proofs.YtjlbngjeekdfcaaGreatDoor
set_option maxRecDepth 100000
set_option maxHeartbeats 64000000
set_option linter.unusedVariables false
open Go.RowKit
open MX (bLo bHi tA tZ xK xR xS yR yS uR uS gR gS hR hS wK wR wS vJ vKi vN vLo vHi nq Hd)
theorem sgn_le8 {X : Int} (h : X ≤ 0) : sgnI X ≤ 0 := by unfold sgnI; split <;> (try split) <;> omega
theorem ElemCircle_any {b : Bool} {A : Option Addr} {n c : Nat} {l : List Int} {e : Int} {w : World} (hT : Tab w) (h : Rd w w.heap.size A n c l) (q : Int) (hq : -9223372036854775808 ≤ q ∧ q ≤ 9223372036854775807) :
  Calls Tryz.prog 6 #[.agg #[.bool b, .slice A n c, .int .i64 e], .int .i64 q] w fun e w' => e = .returned (.bool true) ∧ Below w.heap.size w w' := by
 obtain ⟨sq, hsq, Q, wq, lq, uq, hqq⟩ := masked127 q 8 (by omega)
 clear hqq hq
 go_enter Tryz.func6, Tryz.ntmps6
 go_wp2_with fail
 refine al1c fun v1 hb x_x => ?_
 replace x_x := Dx.of x_x
 obtain ⟨hT, h⟩ := mv2 hb hT h
 have q_x := x_x.al
 skip
 with_reducible refine (Eshown_any hT).mono ?_
 rintro e v2 ⟨rfl, hb1⟩
 obtain ⟨x_x, hT, h, hb⟩ := mv4 hb1 x_x hT h hb
 clear hb1
 replace q_x := x_x.al
 go_wp2_with fail
 with_reducible refine (Esmall_any h hT).mono ?_
 rintro e v3 ⟨X, f, A1, n1, c1, rfl, z1, sl, hb1⟩
 obtain ⟨x_x, hT, h, hb⟩ := mv4 hb1 x_x hT h hb
 clear hb1
 replace q_x := x_x.al
 clear h
 have HN := Lib.hid sl.ng
 have HX : Hid (Si X 3 ∧ Si (-X) 3) := Lib.hid ⟨z1.zr.si, by have := z1.zr.si; unfold Si at *; rw [Int.natAbs_neg]; exact this⟩
 go_wp2_with fail
 clear q_x
 refine x_x.stc fun v4 hs hx => ?_
 obtain ⟨hT, z1, hb⟩ := ms3 hs ⟨hT.neD x_x, trivial, by omega⟩ hT z1 hb
 replace x_x := hx; clear hx hs
 have q_x := x_x.al
 go_wp2_with fail
 skip
 with_reducible refine (Fat (i := 4) (by omega) (z1.wide (by omega)).zr hT sl.ar (q := Q) (by omega) (by omega)).mono ?_
 rintro e v5 ⟨P11, R11, A11, n11, c11, A12, n12, c12, rfl, z11, z12, l11, F11, hb1⟩
 obtain ⟨x_x, hT, z1, hb⟩ := mv4 hb1 x_x hT z1 hb
 clear hb1
 replace q_x := x_x.al
 have w11 := F11.wv (by omega); replace z11 := z11.slim (wv_si (by omega) ⟨w11.1, by omega⟩); replace z12 := z12.slim (wv_si (by omega) ⟨by omega, w11.2⟩)
 have y_x := ((x_x.alloc (.cells #[.bool (ngB P11), .slice A11 n11 c11, .bool (ngB R11), .slice A12 n12 c12, .int .i64 (Q : Int)] 31))).al
 go_upto_region 5 with fail
 clear y_x
 have l_x_s := x_x.lt
 have e_s : w.heap.size ≤ v5.heap.size := hb.size
 clear q_x
 refine al1 fun v6 hb1 x_s => ?_
 replace x_s := Lx.of x_s
 obtain ⟨x_x, hT, z1, z11, z12, hb⟩ := mv6 hb1 x_x hT z1 z11 z12 hb
 clear hb1
 have q_x := x_x.al
 have q_s := x_s.al
 clear q_s
 go_wp2_with fail
 with_reducible refine (Fat (i := 5) (by omega) (z1.wide (by omega)).zr hT sl.ar (q := Q) (by omega) (by omega)).mono ?_
 rintro e v7 ⟨P13, R13, A13, n13, c13, A14, n14, c14, rfl, z13, z14, l13, F13, hb1⟩
 obtain ⟨x_x, x_s, hT, z1, z11, z12, hb⟩ := mv7 hb1 x_x x_s hT z1 z11 z12 hb
 clear hb1
 replace q_x := x_x.al
 have w13 := F13.wv (by omega); replace z13 := z13.slim (wv_si (by omega) ⟨w13.1, by omega⟩); replace z14 := z14.slim (wv_si (by omega) ⟨by omega, w13.2⟩)
 have y_x := ((x_x.alloc (.cells #[.bool (ngB P13), .slice A13 n13 c13, .bool (ngB R13), .slice A14 n14 c14, .int .i64 (Q : Int)] 31))).al
 go_upto_region 6 with fail
 clear y_x
 have l_x_c := x_x.lt
 have l_s_c := x_s.lt
 have e_c : w.heap.size ≤ v7.heap.size := hb.size
 clear q_x
 refine al1 fun v8 hb1 x_c => ?_
 replace x_c := Lx.of x_c
 obtain ⟨x_x, x_s, hT, z1, z11, z12, z13, z14, hb⟩ := mv9 hb1 x_x x_s hT z1 z11 z12 z13 z14 hb
 clear hb1
 have q_x := x_x.al
 have q_c := x_c.al
 clear q_c
 go_wp2_with fail
 with_reducible refine (DNeg_any z1.zr hT 4 (by omega) (by omega)).mono ?_
 rintro e v9 ⟨A9, n9, c9, rfl, z9, hb1⟩
 obtain ⟨x_x, x_s, x_c, hT, z1, z11, z12, z13, z14⟩ := mv9 hb1 x_x x_s x_c hT z1 z11 z12 z13 z14
 replace hb := Mv.mv hb hb1
 clear hb1
 replace q_x := x_x.al
 rw [HN.out.1] at z9 ⊢; rw [HN.out.2]
 go_wp2_with fail
 with_reducible refine (Fat (i := 4) (by omega) (z9.wide (by omega)).zr hT sl.neg.ar (q := Q) (by omega) (by omega)).mono ?_
 rintro e v10 ⟨P15, R15, A15, n15, c15, A16, n16, c16, rfl, z15, z16, l15, F15, hb1⟩
 obtain ⟨x_x, x_s, x_c, hT, z1, z11, z12, z13, z14⟩ := mv9 hb1 x_x x_s x_c hT z1 z11 z12 z13 z14
 obtain ⟨z9, hb⟩ := mv2 hb1 z9 hb
 clear hb1
 replace q_x := x_x.al
 have w15 := F15.wv (by omega); replace z15 := z15.slim (wv_si (by omega) ⟨w15.1, by omega⟩); replace z16 := z16.slim (wv_si (by omega) ⟨by omega, w15.2⟩)
 have y_x := ((x_x.alloc (.cells #[.bool (ngB P15), .slice A15 n15 c15, .bool (ngB R15), .slice A16 n16 c16, .int .i64 (Q : Int)] 31))).al
 go_upto_region 7 with fail
 clear y_x
 have l_x_t := x_x.lt
 have l_s_t := x_s.lt
 have l_c_t := x_c.lt
 have e_t : w.heap.size ≤ v10.heap.size := hb.size
 clear q_x
 refine al1 fun v11 hb1 x_t => ?_
 replace x_t := Lx.of x_t
 obtain ⟨x_x, x_s, x_c, hT, z1, z11, z12, z13, z14⟩ := mv9 hb1 x_x x_s x_c hT z1 z11 z12 z13 z14
 obtain ⟨z15, z16, hb⟩ := mv3 hb1 z15 z16 hb
 clear hb1
 have q_x := x_x.al
 have q_t := x_t.al
 clear q_t
 go_wp2_with fail
 with_reducible refine (DNeg_any z1.zr hT 4 (by omega) (by omega)).mono ?_
 rintro e v12 ⟨A9, n9, c9, rfl, z9, hb1⟩
 obtain ⟨x_x, x_s, x_c, x_t, hT, z1, z11, z12, z13⟩ := mv9 hb1 x_x x_s x_c x_t hT z1 z11 z12 z13
 obtain ⟨z14, z15, z16, hb⟩ := mv4 hb1 z14 z15 z16 hb
 clear hb1
 replace q_x := x_x.al
 rw [HN.out.1] at z9 ⊢; rw [HN.out.2]
 go_wp2_with fail
 with_reducible refine (Fat (i := 5) (by omega) (z9.wide (by omega)).zr hT sl.neg.ar (q := Q) (by omega) (by omega)).mono ?_
 rintro e v13 ⟨P17, R17, A17, n17, c17, A18, n18, c18, rfl, z17, z18, l17, F17, hb1⟩
 obtain ⟨x_x, x_s, x_c, x_t, hT, z1, z11, z12, z13⟩ := mv9 hb1 x_x x_s x_c x_t hT z1 z11 z12 z13
 obtain ⟨z14, z15, z16, z9, hb⟩ := mv5 hb1 z14 z15 z16 z9 hb
 clear hb1
 replace q_x := x_x.al
 have w17 := F17.wv (by omega); replace z17 := z17.slim (wv_si (by omega) ⟨w17.1, by omega⟩); replace z18 := z18.slim (wv_si (by omega) ⟨by omega, w17.2⟩)
 have y_x := ((x_x.alloc (.cells #[.bool (ngB P17), .slice A17 n17 c17, .bool (ngB R17), .slice A18 n18 c18, .int .i64 (Q : Int)] 31))).al
 go_upto_region 8 with fail
 clear y_x
 have l_x_d := x_x.lt
 have l_s_d := x_s.lt
 have l_c_d := x_c.lt
 have l_t_d := x_t.lt
 have e_d : w.heap.size ≤ v13.heap.size := hb.size
 clear q_x
 refine al1 fun v14 hb1 x_d => ?_
 replace x_d := Lx.of x_d
 obtain ⟨x_x, x_s, x_c, x_t, hT, z1, z11, z12, z13⟩ := mv9 hb1 x_x x_s x_c x_t hT z1 z11 z12 z13
 obtain ⟨z14, z15, z16, z17, z18, hb⟩ := mv6 hb1 z14 z15 z16 z17 z18 hb
 clear hb1
 have q_x := x_x.al
 have q_d := x_d.al
 clear q_d
 have hQ : Q ≤ 200 := by omega
 have p := tw_pos Q
 have HM : Hid (min (P15 * -1) (R15 * -1) = -R15 ∧ max (P15 * -1) (R15 * -1) = -P15) := Lib.hid (by omega)
 have HV15 : Hid (P15 ≤ R15) := Lib.hid l15
 have HV11 : Hid (P11 ≤ R11) := Lib.hid l11
 have HV13 : Hid (P13 ≤ R13) := Lib.hid l13
 have MT1 : Hid (metB (-R15) (-P15) Q P11 R11 Q = true) := Lib.hid (MX.met_of (by have := F15.hd.neg; rw [(Vf_neg X f).1] at this; exact this) F11.hd ⟨by omega, by omega, by omega⟩ ⟨by omega, by omega, l11⟩)
 have MT2 : Hid (metB P17 R17 Q P13 R13 Q = true) := Lib.hid (F17.met F13 (Vf_neg X f).2 (by omega) (by omega))
 obtain ⟨M1, hm1⟩ : ∃ M, mn4 (fun x y => flI (x * y) (-(Q : Int))) P11 R11 P11 R11 = M := ⟨_, rfl⟩
 obtain ⟨M2, hm2⟩ : ∃ M, mx4 (fun x y => -flI (-(x * y)) (-(Q : Int))) P11 R11 P11 R11 = M := ⟨_, rfl⟩
 obtain ⟨N1, hn1⟩ : ∃ M, mn4 (fun x y => flI (x * y) (-(Q : Int))) P13 R13 P13 R13 = M := ⟨_, rfl⟩
 obtain ⟨N2, hn2⟩ : ∃ M, mx4 (fun x y => -flI (-(x * y)) (-(Q : Int))) P13 R13 P13 R13 = M := ⟨_, rfl⟩
 have ci := circ hQ F11.hd F13.hd hm1 hm2 hn1 hn2
 have HC1 := Lib.hid (And.intro hm1 hm2); have HC2 := Lib.hid (And.intro hn1 hn2); have HC3 : Hid (mn4 (fun x y => x + y) M1 M2 N1 N2 = M1 + N1 ∧ mx4 (fun x y => x + y) M1 M2 N1 N2 = M2 + N2) := Lib.hid (by simp only [mn4, mx4]; omega)
 have HC4 := Lib.hid ci.2.2; have HVM := Lib.hid ci.1; have HVN := Lib.hid ci.2.1; clear hm1 hm2 hn1 hn2 ci
 have HSC : Hid (1 * 2 ^ sc (Q : Int) = twP Q) := Lib.hid (by rw [Int.one_mul]; exact tw_sc (by omega))
 obtain ⟨S1, hS1⟩ : ∃ e, sgnI (R11 - (twP Q + 2)) = e := ⟨_, rfl⟩
 have iS1 : S1 ≤ 0 := by rw [← hS1]; exact sgn_le8 (by omega)
 have jS1 : decide (S1 ≤ 0) = true := decide_eq_true iS1
 have HS1 := Lib.hid hS1; clear hS1
 obtain ⟨S2, hS2⟩ : ∃ e, sgnI (-(twP Q + 2) - P11) = e := ⟨_, rfl⟩
 have iS2 : S2 ≤ 0 := by rw [← hS2]; exact sgn_le8 (by omega)
 have jS2 : decide (S2 ≤ 0) = true := decide_eq_true iS2
 have HS2 := Lib.hid hS2; clear hS2
 obtain ⟨S3, hS3⟩ : ∃ e, sgnI (R13 - (twP Q + 2)) = e := ⟨_, rfl⟩
 have iS3 : S3 ≤ 0 := by rw [← hS3]; exact sgn_le8 (by omega)
 have jS3 : decide (S3 ≤ 0) = true := decide_eq_true iS3
 have HS3 := Lib.hid hS3; clear hS3
 obtain ⟨S4, hS4⟩ : ∃ e, sgnI (-(twP Q + 2) - P13) = e := ⟨_, rfl⟩
 have iS4 : S4 ≤ 0 := by rw [← hS4]; exact sgn_le8 (by omega)
 have jS4 : decide (S4 ≤ 0) = true := decide_eq_true iS4
 have HS4 := Lib.hid hS4; clear hS4
 clear p l11 l13 l15 w11 w13 w15 w17 F11 F13 F15 F17
 have q_t := x_t.al
 have hv := Below.refl v14.heap.size v14
 have l_s_m := x_s.lt
 have l_c_m := x_c.lt
 have l_t_m := x_t.lt
 have l_d_m := x_d.lt
 go_cut [14] (fun s9 wx => LnNew v14 (-R15) (-P15) (Q : Int) 60 60 s9 wx)
 case first =>
  go_region_held3 (fun w' => w'.cell? ⟨v10.heap.size, 0, none⟩ = some (.bool (ngB P15)) ∧ w'.cell? ⟨v10.heap.size, 1, none⟩ = some (.slice A15 n15 c15) ∧ w'.cell? ⟨v10.heap.size, 2, none⟩ = some (.bool (ngB R15)) ∧ w'.cell? ⟨v10.heap.size, 3, none⟩ = some (.slice A16 n16 c16) ∧ w'.cell? ⟨v10.heap.size, 4, none⟩ = some (.int .i64 (Q : Int)))
   (first | (with_reducible exact ⟨x_t.c0, x_t.c1, x_t.c2, x_t.c3, x_t.c4⟩) | (with_reducible exact ⟨(x_t.alloc _).c0, (x_t.alloc _).c1, (x_t.alloc _).c2, (x_t.alloc _).c3, (x_t.alloc _).c4⟩) | (with_reducible exact ⟨(x_t.asideL (by omega)).c0, (x_t.asideL (by omega)).c1, (x_t.asideL (by omega)).c2, (x_t.asideL (by omega)).c3, (x_t.asideL (by omega)).c4⟩) | (with_reducible exact ⟨((x_t.alloc _).asideL (by omega)).c0, ((x_t.alloc _).asideL (by omega)).c1, ((x_t.alloc _).asideL (by omega)).c2, ((x_t.alloc _).asideL (by omega)).c3, ((x_t.alloc _).asideL (by omega)).c4⟩) | go_keep)
   (first | (go_at_call 20; (with_reducible refine (ZOf_any (-1) (by omega) (by omega)).mono ?_); rintro e v15 ⟨A20, n20, c20, rfl, z20, hb1⟩; replace hb1 := undrew hb1; (try replace x_m := x_m.keep hb1); replace hv := bthen hv hb1; have hvs_v15 := hv.size; obtain ⟨x_s, x_c, x_t, x_d, hT, z11, z12, z13, z14⟩ := mv9 hb1 x_s x_c x_t x_d hT z11 z12 z13 z14; obtain ⟨z15, z16, z17, z18, hb⟩ := mv5 hb1 z15 z16 z17 z18 hb; clear hb1; replace q_t := x_t.al; (try (have q_m0 := x_m.c0; have f_m0 := x_m.fr 0; have q_m1 := x_m.c1; have f_m1 := x_m.fr 1; have q_m2 := x_m.c2; have f_m2 := x_m.fr 2; have q_m3 := x_m.c3; have f_m3 := x_m.fr 3; have q_m4 := x_m.c4; have f_m4 := x_m.fr 4))) | (go_at_call 20; (with_reducible refine (ZOf_any (-1) (by omega) (by omega)).mono ?_); rintro e v15 ⟨A20, n20, c20, rfl, z20, hb1⟩; replace hb1 := undrew hb1; have x_m := (Lx.new v14 false none 0 0 false none 0 0 0).keep hb1; replace hb1 := bthen (below_alloc v14 (.cells #[.bool false, .slice none 0 0, .bool false, .slice none 0 0, .int .i64 0] 31)) hb1; replace hv := bthen hv hb1; have hvs_v15 := hv.size; obtain ⟨x_s, x_c, x_t, x_d, hT, z11, z12, z13, z14⟩ := mv9 hb1 x_s x_c x_t x_d hT z11 z12 z13 z14; obtain ⟨z15, z16, z17, z18, hb⟩ := mv5 hb1 z15 z16 z17 z18 hb; clear hb1; replace q_t := x_t.al; (try (have q_m0 := x_m.c0; have f_m0 := x_m.fr 0; have q_m1 := x_m.c1; have f_m1 := x_m.fr 1; have q_m2 := x_m.c2; have f_m2 := x_m.fr 2; have q_m3 := x_m.c3; have f_m3 := x_m.fr 3; have q_m4 := x_m.c4; have f_m4 := x_m.fr 4))) | (go_at_call 19; (with_reducible refine (Times_yes z15.zr z16.zr z20.zr ⟨by omega, by omega, HV15.out⟩ (by omega) (by omega) (by omega)).mono ?_); rintro e v16 ⟨A21, n21, c21, A22, n22, c22, rfl, z21, z22, hb1⟩; (try replace x_m := x_m.keep hb1); replace hv := bthen hv hb1; have hvs_v16 := hv.size; obtain ⟨x_s, x_c, x_t, x_d, hT, z11, z12, z13, z14⟩ := mv9 hb1 x_s x_c x_t x_d hT z11 z12 z13 z14; obtain ⟨z15, z16, z17, z18, z20, hb⟩ := mv6 hb1 z15 z16 z17 z18 z20 hb; clear hb1; replace q_t := x_t.al; rw [HM.out.1] at z21 ⊢; rw [HM.out.2] at z22 ⊢; (try (have q_m0 := x_m.c0; have f_m0 := x_m.fr 0; have q_m1 := x_m.c1; have f_m1 := x_m.fr 1; have q_m2 := x_m.c2; have f_m2 := x_m.fr 2; have q_m3 := x_m.c3; have f_m3 := x_m.fr 3; have q_m4 := x_m.c4; have f_m4 := x_m.fr 4))) | (go_at_call 19; (with_reducible refine (Times_yes (z15.keep (below_alloc v15 (.cells #[.bool false, .slice none 0 0, .bool false, .slice none 0 0, .int .i64 0] 31))).zr (z16.keep (below_alloc v15 (.cells #[.bool false, .slice none 0 0, .bool false, .slice none 0 0, .int .i64 0] 31))).zr (z20.keep (below_alloc v15 (.cells #[.bool false, .slice none 0 0, .bool false, .slice none 0 0, .int .i64 0] 31))).zr ⟨by omega, by omega, HV15.out⟩ (by omega) (by omega) (by omega)).mono ?_); rintro e v16 ⟨A21, n21, c21, A22, n22, c22, rfl, z21, z22, hb1⟩; have x_m := (Lx.new v15 false none 0 0 false none 0 0 0).keep hb1; replace hb1 := bthen (below_alloc v15 (.cells #[.bool false, .slice none 0 0, .bool false, .slice none 0 0, .int .i64 0] 31)) hb1; replace hv := bthen hv hb1; have hvs_v16 := hv.size; obtain ⟨x_s, x_c, x_t, x_d, hT, z11, z12, z13, z14⟩ := mv9 hb1 x_s x_c x_t x_d hT z11 z12 z13 z14; obtain ⟨z15, z16, z17, z18, z20, hb⟩ := mv6 hb1 z15 z16 z17 z18 z20 hb; clear hb1; replace q_t := x_t.al; rw [HM.out.1] at z21 ⊢; rw [HM.out.2] at z22 ⊢; (try (have q_m0 := x_m.c0; have f_m0 := x_m.fr 0; have q_m1 := x_m.c1; have f_m1 := x_m.fr 1; have q_m2 := x_m.c2; have f_m2 := x_m.fr 2; have q_m3 := x_m.c3; have f_m3 := x_m.fr 3; have q_m4 := x_m.c4; have f_m4 := x_m.fr 4))))
  all_goals go_wp2_with fail
  all_goals go_meet
  all_goals first | (with_reducible exact LnNew.new hv z21 z22) | (with_reducible exact LnNew.put hv x_m (by omega) z21 z22)
 obtain ⟨g17, Ax18, nx18, cx18, Ay18, ny18, cy18, rfl, x_m, z1_m, z2_m, e_m, hb1⟩ := hcut
 clear hv
 obtain ⟨x_s, x_c, x_t, x_d, hT, z11, z12, z13, z14⟩ := mv9 hb1 x_s x_c x_t x_d hT z11 z12 z13 z14
 obtain ⟨z15, z16, z17, z18, hb⟩ := mv5 hb1 z15 z16 z17 z18 hb
 clear hb1
 replace q_t := x_t.al
 clear q_t
 generalize wc = v19 at *
 have q_t := x_t.al
 have q_m := x_m.al
 clear q_m
 have q_s := x_s.al
 go_wp2_with fail
 with_reducible refine (LMul_any z11.zr z12.zr z11.zr z12.zr ⟨by omega, by omega, HV11.out⟩ HV11.out 8 (by omega) (by omega) (by omega) (by omega) 150 (by omega) (by omega)).mono ?_
 rintro e v20 ⟨A31, n31, c31, A32, n32, c32, rfl, z31, z32, hb1⟩
 obtain ⟨x_s, x_c, x_d, x_m, hT, z11, z12, z13, z14⟩ := mv9 hb1 x_s x_c x_d x_m hT z11 z12 z13 z14
 obtain ⟨z17, z18, z1_m, z2_m, hb⟩ := mv5 hb1 z17 z18 z1_m z2_m hb
 clear hb1
 replace q_s := x_s.al
 rw [HC1.out.1] at z31 ⊢; rw [HC1.out.2] at z32 ⊢
 clear q_s
 go_upto_region 10 with fail
 have l_s_a := x_s.lt
 have l_c_a := x_c.lt
 have l_d_a := x_d.lt
 have l_m_a := x_m.lt
 have e_a : w.heap.size ≤ v20.heap.size := hb.size
 refine al1 fun v21 hb1 x_a => ?_
 replace x_a := Lx.of x_a
 obtain ⟨x_s, x_c, x_d, x_m, hT, z11, z12, z13, z14⟩ := mv9 hb1 x_s x_c x_d x_m hT z11 z12 z13 z14
 obtain ⟨z17, z18, z1_m, z2_m, z31, z32, hb⟩ := mv7 hb1 z17 z18 z1_m z2_m z31 z32 hb
 clear hb1
 have q_a := x_a.al
 clear q_a
 have q_c := x_c.al
 go_wp2_with fail
 with_reducible refine (LMul_any z13.zr z14.zr z13.zr z14.zr ⟨by omega, by omega, HV13.out⟩ HV13.out 8 (by omega) (by omega) (by omega) (by omega) 150 (by omega) (by omega)).mono ?_
 rintro e v22 ⟨A33, n33, c33, A34, n34, c34, rfl, z33, z34, hb1⟩
 obtain ⟨x_s, x_c, x_d, x_m, x_a, hT, z11, z12, z13⟩ := mv9 hb1 x_s x_c x_d x_m x_a hT z11 z12 z13
 obtain ⟨z14, z17, z18, z1_m, z2_m, z31, z32, hb⟩ := mv8 hb1 z14 z17 z18 z1_m z2_m z31 z32 hb
 clear hb1
 replace q_c := x_c.al
 rw [HC2.out.1] at z33 ⊢; rw [HC2.out.2] at z34 ⊢
 clear q_c
 go_upto_region 11 with fail
 have l_s_b := x_s.lt
 have l_c_b := x_c.lt
 have l_d_b := x_d.lt
 have l_m_b := x_m.lt
 have l_a_b := x_a.lt
 have e_b : w.heap.size ≤ v22.heap.size := hb.size
 refine al1 fun v23 hb1 x_b => ?_
 replace x_b := Lx.of x_b
 obtain ⟨x_s, x_c, x_d, x_m, x_a, hT, z11, z12, z13⟩ := mv9 hb1 x_s x_c x_d x_m x_a hT z11 z12 z13
 obtain ⟨z14, z17, z18, z1_m, z2_m, z31, z32, z33, z34⟩ := mv9 hb1 z14 z17 z18 z1_m z2_m z31 z32 z33 z34
 replace hb := Mv.mv hb hb1
 clear hb1
 have q_b := x_b.al
 have q_a := x_a.al
 go_wp2_with fail
 with_reducible refine (LAdd_any z31.zr z32.zr z33.zr z34.zr ⟨by omega, by omega, HVM.out⟩ HVN.out 150 (by omega) (by omega) (by omega) (by omega) 151 (by omega) (by omega)).mono ?_
 rintro e v24 ⟨A35, n35, c35, A36, n36, c36, rfl, z35, z36, hb1⟩
 obtain ⟨x_s, x_c, x_d, x_m, x_a, x_b, hT, z11, z12⟩ := mv9 hb1 x_s x_c x_d x_m x_a x_b hT z11 z12
 obtain ⟨z13, z14, z17, z18, z1_m, z2_m, z31, z32, z33⟩ := mv9 hb1 z13 z14 z17 z18 z1_m z2_m z31 z32 z33
 obtain ⟨z34, hb⟩ := mv2 hb1 z34 hb
 clear hb1
 replace q_a := x_a.al
 replace q_b := x_b.al
 rw [HC3.out.1] at z35 ⊢; rw [HC3.out.2] at z36 ⊢
 clear q_a
 clear q_b
 go_upto_region 12 with fail
 have l_s_o := x_s.lt
 have l_c_o := x_c.lt
 have l_d_o := x_d.lt
 have l_m_o := x_m.lt
 have e_o : w.heap.size ≤ v24.heap.size := hb.size
 refine al1 fun v25 hb1 x_o => ?_
 replace x_o := Lx.of x_o
 obtain ⟨x_s, x_c, x_d, x_m, hT, z11, z12, z13, z14⟩ := mv9 hb1 x_s x_c x_d x_m hT z11 z12 z13 z14
 obtain ⟨z17, z18, z1_m, z2_m, z35, z36, hb⟩ := mv7 hb1 z17 z18 z1_m z2_m z35 z36 hb
 clear hb1
 have q_o := x_o.al
 clear q_o
 go_wp2_with fail
 with_reducible refine (ZOf_any 1 (by omega) (by omega)).mono ?_
 rintro e v26 ⟨A41, n41, c41, rfl, z41, hb1⟩
 obtain ⟨x_s, x_c, x_d, x_m, x_o, hT, z11, z12, z13⟩ := mv9 hb1 x_s x_c x_d x_m x_o hT z11 z12 z13
 obtain ⟨z14, z17, z18, z1_m, z2_m, z35, z36, hb⟩ := mv8 hb1 z14 z17 z18 z1_m z2_m z35 z36 hb
 clear hb1
 go_wp2_with fail
 with_reducible refine (ZShl_any z41.zr (Q : Int) 129 (by omega) (by omega)).mono ?_
 rintro e v27 ⟨A42, n42, c42, rfl, z42, hb1⟩
 obtain ⟨x_s, x_c, x_d, x_m, x_o, hT, z11, z12, z13⟩ := mv9 hb1 x_s x_c x_d x_m x_o hT z11 z12 z13
 obtain ⟨z14, z17, z18, z1_m, z2_m, z35, z36, z41, hb⟩ := mv9 hb1 z14 z17 z18 z1_m z2_m z35 z36 z41 hb
 clear hb1
 rw [HSC.out] at z42 ⊢
 go_wp2_with fail
 with_reducible refine (ZOf_any 2 (by omega) (by omega)).mono ?_
 rintro e v28 ⟨A43, n43, c43, rfl, z43, hb1⟩
 obtain ⟨x_s, x_c, x_d, x_m, x_o, hT, z11, z12, z13⟩ := mv9 hb1 x_s x_c x_d x_m x_o hT z11 z12 z13
 obtain ⟨z14, z17, z18, z1_m, z2_m, z35, z36, z42, hb⟩ := mv9 hb1 z14 z17 z18 z1_m z2_m z35 z36 z42 hb
 clear hb1
 go_wp2_with fail
 with_reducible refine (ZAdd_any z42.zr z43.zr 130 (by omega) (by omega) (by omega)).mono ?_
 rintro e v29 ⟨A44, n44, c44, rfl, z44, hb1⟩
 obtain ⟨x_s, x_c, x_d, x_m, x_o, hT, z11, z12, z13⟩ := mv9 hb1 x_s x_c x_d x_m x_o hT z11 z12 z13
 obtain ⟨z14, z17, z18, z1_m, z2_m, z35, z36, z42, z43⟩ := mv9 hb1 z14 z17 z18 z1_m z2_m z35 z36 z42 z43
 replace hb := Mv.mv hb hb1
 clear hb1
 go_upto_region 13 with fail
 have l_s_k := x_s.lt
 have l_c_k := x_c.lt
 have l_d_k := x_d.lt
 have l_m_k := x_m.lt
 have l_o_k := x_o.lt
 have e_k : w.heap.size ≤ v29.heap.size := hb.size
 refine al1 fun v30 hb1 x_k => ?_
 replace x_k := Bx.of x_k
 obtain ⟨x_s, x_c, x_d, x_m, x_o, hT, z11, z12, z13⟩ := mv9 hb1 x_s x_c x_d x_m x_o hT z11 z12 z13
 obtain ⟨z14, z17, z18, z1_m, z2_m, z35, z36, z44, hb⟩ := mv9 hb1 z14 z17 z18 z1_m z2_m z35 z36 z44 hb
 clear hb1
 have q_k := x_k.al
 have q_s := x_s.al
 have q_c := x_c.al
 go_region_held3 (fun w' => w'.cell? ⟨v5.heap.size, 0, none⟩ = some (.bool (ngB P11)) ∧ w'.cell? ⟨v5.heap.size, 1, none⟩ = some (.slice A11 n11 c11) ∧ w'.cell? ⟨v5.heap.size, 2, none⟩ = some (.bool (ngB R11)) ∧ w'.cell? ⟨v5.heap.size, 3, none⟩ = some (.slice A12 n12 c12) ∧ w'.cell? ⟨v5.heap.size, 4, none⟩ = some (.int .i64 (Q : Int)) ∧ w'.cell? ⟨v7.heap.size, 0, none⟩ = some (.bool (ngB P13)) ∧ w'.cell? ⟨v7.heap.size, 1, none⟩ = some (.slice A13 n13 c13) ∧ w'.cell? ⟨v7.heap.size, 2, none⟩ = some (.bool (ngB R13)) ∧ w'.cell? ⟨v7.heap.size, 3, none⟩ = some (.slice A14 n14 c14) ∧ w'.cell? ⟨v7.heap.size, 4, none⟩ = some (.int .i64 (Q : Int)) ∧ w'.cell? ⟨v29.heap.size, 0, none⟩ = some (.bool (ngB (twP Q + 2))) ∧ w'.cell? ⟨v29.heap.size, 1, none⟩ = some (.slice A44 n44 c44))
  (first | (with_reducible exact ⟨x_s.c0, x_s.c1, x_s.c2, x_s.c3, x_s.c4, x_c.c0, x_c.c1, x_c.c2, x_c.c3, x_c.c4, x_k.c0, x_k.c1⟩) | go_keep)
  (first | (go_at_call 23; (with_reducible refine (ZCmp_any z12.drw.zr z44.drw.zr (by omega) (by omega)).mono ?_); rintro e v31 ⟨rfl, hb1⟩; replace hb1 := undrew hb1; obtain ⟨x_s, x_c, x_d, x_m, x_o, x_k, hT, z11, z12⟩ := mv9 hb1 x_s x_c x_d x_m x_o x_k hT z11 z12; obtain ⟨z13, z14, z17, z18, z1_m, z2_m, z35, z36, z44⟩ := mv9 hb1 z13 z14 z17 z18 z1_m z2_m z35 z36 z44; replace hb := Mv.mv hb hb1; clear hb1; replace q_s := x_s.al; replace q_c := x_c.al; replace q_k := x_k.al; rw [HS1.out]) | (go_at_call 24; (with_reducible refine (ZNeg_any z44.zr 131 (by omega)).mono ?_); rintro e v32 ⟨A45, n45, c45, rfl, z45, hb1⟩; obtain ⟨x_s, x_c, x_d, x_m, x_o, x_k, hT, z11, z12⟩ := mv9 hb1 x_s x_c x_d x_m x_o x_k hT z11 z12; obtain ⟨z13, z14, z17, z18, z1_m, z2_m, z35, z36, z44⟩ := mv9 hb1 z13 z14 z17 z18 z1_m z2_m z35 z36 z44; replace hb := Mv.mv hb hb1; clear hb1; replace q_s := x_s.al; replace q_c := x_c.al; replace q_k := x_k.al) | (go_at_call 23; (with_reducible refine (ZCmp_any z45.zr z11.zr (by omega) (by omega)).mono ?_); rintro e v33 ⟨rfl, hb1⟩; obtain ⟨x_s, x_c, x_d, x_m, x_o, x_k, hT, z11, z12⟩ := mv9 hb1 x_s x_c x_d x_m x_o x_k hT z11 z12; obtain ⟨z13, z14, z17, z18, z1_m, z2_m, z35, z36, z44⟩ := mv9 hb1 z13 z14 z17 z18 z1_m z2_m z35 z36 z44; obtain ⟨z45, hb⟩ := mv2 hb1 z45 hb; clear hb1; replace q_s := x_s.al; replace q_c := x_c.al; replace q_k := x_k.al; rw [HS2.out]) | (go_at_call 23; (with_reducible refine (ZCmp_any z14.zr z44.zr (by omega) (by omega)).mono ?_); rintro e v34 ⟨rfl, hb1⟩; obtain ⟨x_s, x_c, x_d, x_m, x_o, x_k, hT, z11, z12⟩ := mv9 hb1 x_s x_c x_d x_m x_o x_k hT z11 z12; obtain ⟨z13, z14, z17, z18, z1_m, z2_m, z35, z36, z44⟩ := mv9 hb1 z13 z14 z17 z18 z1_m z2_m z35 z36 z44; obtain ⟨z45, hb⟩ := mv2 hb1 z45 hb; clear hb1; replace q_s := x_s.al; replace q_c := x_c.al; replace q_k := x_k.al; rw [HS3.out]) | (go_at_call 23; (with_reducible refine (ZCmp_any z45.zr z13.zr (by omega) (by omega)).mono ?_); rintro e v35 ⟨rfl, hb1⟩; obtain ⟨x_s, x_c, x_d, x_m, x_o, x_k, hT, z11, z12⟩ := mv9 hb1 x_s x_c x_d x_m x_o x_k hT z11 z12; obtain ⟨z13, z14, z17, z18, z1_m, z2_m, z35, z36, z44⟩ := mv9 hb1 z13 z14 z17 z18 z1_m z2_m z35 z36 z44; obtain ⟨z45, hb⟩ := mv2 hb1 z45 hb; clear hb1; replace q_s := x_s.al; replace q_c := x_c.al; replace q_k := x_k.al; rw [HS4.out]))
 clear q_k
 go_upto_region 14 with fail
 have q_o := x_o.al
 have q_m := x_m.al
 have q_d := x_d.al
 go_region_held3 (fun w' => w'.cell? ⟨v24.heap.size, 0, none⟩ = some (.bool (ngB (M1 + N1))) ∧ w'.cell? ⟨v24.heap.size, 1, none⟩ = some (.slice A35 n35 c35) ∧ w'.cell? ⟨v24.heap.size, 2, none⟩ = some (.bool (ngB (M2 + N2))) ∧ w'.cell? ⟨v24.heap.size, 3, none⟩ = some (.slice A36 n36 c36) ∧ w'.cell? ⟨v24.heap.size, 4, none⟩ = some (.int .i64 (Q : Int)) ∧ w'.cell? ⟨g17, 0, none⟩ = some (.bool (ngB (-R15))) ∧ w'.cell? ⟨g17, 1, none⟩ = some (.slice Ax18 nx18 cx18) ∧ w'.cell? ⟨g17, 2, none⟩ = some (.bool (ngB (-P15))) ∧ w'.cell? ⟨g17, 3, none⟩ = some (.slice Ay18 ny18 cy18) ∧ w'.cell? ⟨g17, 4, none⟩ = some (.int .i64 (Q : Int)) ∧ w'.cell? ⟨v5.heap.size, 0, none⟩ = some (.bool (ngB P11)) ∧ w'.cell? ⟨v5.heap.size, 1, none⟩ = some (.slice A11 n11 c11) ∧ w'.cell? ⟨v5.heap.size, 2, none⟩ = some (.bool (ngB R11)) ∧ w'.cell? ⟨v5.heap.size, 3, none⟩ = some (.slice A12 n12 c12) ∧ w'.cell? ⟨v5.heap.size, 4, none⟩ = some (.int .i64 (Q : Int)) ∧ w'.cell? ⟨v13.heap.size, 0, none⟩ = some (.bool (ngB P17)) ∧ w'.cell? ⟨v13.heap.size, 1, none⟩ = some (.slice A17 n17 c17) ∧ w'.cell? ⟨v13.heap.size, 2, none⟩ = some (.bool (ngB R17)) ∧ w'.cell? ⟨v13.heap.size, 3, none⟩ = some (.slice A18 n18 c18) ∧ w'.cell? ⟨v13.heap.size, 4, none⟩ = some (.int .i64 (Q : Int)) ∧ w'.cell? ⟨v7.heap.size, 0, none⟩ = some (.bool (ngB P13)) ∧ w'.cell? ⟨v7.heap.size, 1, none⟩ = some (.slice A13 n13 c13) ∧ w'.cell? ⟨v7.heap.size, 2, none⟩ = some (.bool (ngB R13)) ∧ w'.cell? ⟨v7.heap.size, 3, none⟩ = some (.slice A14 n14 c14) ∧ w'.cell? ⟨v7.heap.size, 4, none⟩ = some (.int .i64 (Q : Int)))
  (first | (with_reducible exact ⟨x_o.c0, x_o.c1, x_o.c2, x_o.c3, x_o.c4, x_m.c0, x_m.c1, x_m.c2, x_m.c3, x_m.c4, x_s.c0, x_s.c1, x_s.c2, x_s.c3, x_s.c4, x_d.c0, x_d.c1, x_d.c2, x_d.c3, x_d.c4, x_c.c0, x_c.c1, x_c.c2, x_c.c3, x_c.c4⟩) | go_keep)
  (first | (go_at_call 26; (with_reducible refine (Ewh_any hT.drw 1 wh_1 (by omega)).mono ?_); rintro e v36 ⟨A51, n51, c51, rfl, z51, hb1⟩; replace hb1 := undrew hb1; obtain ⟨x_s, x_c, x_d, x_m, x_o, hT, z11, z12, z13⟩ := mv9 hb1 x_s x_c x_d x_m x_o hT z11 z12 z13; obtain ⟨z14, z17, z18, z1_m, z2_m, z35, z36, hb⟩ := mv8 hb1 z14 z17 z18 z1_m z2_m z35 z36 hb; clear hb1; replace q_s := x_s.al; replace q_c := x_c.al; replace q_d := x_d.al; replace q_m := x_m.al; replace q_o := x_o.al) | (go_at_call 25; (with_reducible refine (Has_any z35.zr z36.zr z51.zr (by omega) (by omega) (by omega)).mono ?_); rintro e v37 ⟨rfl, hb1⟩; obtain ⟨x_s, x_c, x_d, x_m, x_o, hT, z11, z12, z13⟩ := mv9 hb1 x_s x_c x_d x_m x_o hT z11 z12 z13; obtain ⟨z14, z17, z18, z1_m, z2_m, z35, z36, z51, hb⟩ := mv9 hb1 z14 z17 z18 z1_m z2_m z35 z36 z51 hb; clear hb1; replace q_s := x_s.al; replace q_c := x_c.al; replace q_d := x_d.al; replace q_m := x_m.al; replace q_o := x_o.al; rw [HC4.out]) | (go_at_call 14; (with_reducible refine (Meets_any z1_m.zr z2_m.zr z11.zr z12.zr (by omega) (by omega) (by omega) (by omega)).mono ?_); rintro e v38 ⟨rfl, hb1⟩; obtain ⟨x_s, x_c, x_d, x_m, x_o, hT, z11, z12, z13⟩ := mv9 hb1 x_s x_c x_d x_m x_o hT z11 z12 z13; obtain ⟨z14, z17, z18, z1_m, z2_m, z35, z36, z51, hb⟩ := mv9 hb1 z14 z17 z18 z1_m z2_m z35 z36 z51 hb; clear hb1; replace q_s := x_s.al; replace q_c := x_c.al; replace q_d := x_d.al; replace q_m := x_m.al; replace q_o := x_o.al; rw [MT1.out]) | (go_at_call 14; (with_reducible refine (Meets_any z17.zr z18.zr z13.zr z14.zr (by omega) (by omega) (by omega) (by omega)).mono ?_); rintro e v39 ⟨rfl, hb1⟩; obtain ⟨x_s, x_c, x_d, x_m, x_o, hT, z11, z12, z13⟩ := mv9 hb1 x_s x_c x_d x_m x_o hT z11 z12 z13; obtain ⟨z14, z17, z18, z1_m, z2_m, z35, z36, z51, hb⟩ := mv9 hb1 z14 z17 z18 z1_m z2_m z35 z36 z51 hb; clear hb1; replace q_s := x_s.al; replace q_c := x_c.al; replace q_d := x_d.al; replace q_m := x_m.al; replace q_o := x_o.al; rw [MT2.out]))
 go_wp2
 go_ret
 exact ⟨rfl, hb⟩
end Go.Proofs.YtjlbngjeekdfcaaGreatDoor
