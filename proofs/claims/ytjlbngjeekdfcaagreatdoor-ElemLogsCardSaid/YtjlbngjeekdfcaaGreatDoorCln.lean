/-
 consts: Ln2, Pi.
-/
import Derived.Test.YtjlbngjeekdfcaaGreatDoorCfine
import Derived.Test.YtjlbngjeekdfcaaGreatDoorLsum2
namespace Go.Proofs.YtjlbngjeekdfcaaGreatDoor
variable {X Y q : Int} {w : World}
set_option maxRecDepth 100000
set_option maxHeartbeats 8000000
set_option linter.unusedVariables false
open Go.RowKit
theorem LSub_at {b b2 b3 b4 : Bool} {A A2 A3 A4 : Option Addr} {n c n2 c2 n3 c3 n4 c4 : Nat} {U V : Int} (h : Zr w b A n c X 60) (h2 : Zr w b2 A2 n2 c2 Y 60) (h3 : Zr w b3 A3 n3 c3 U 60) (h4 : Zr w b4 A4 n4 c4 V 60) (hv : (0 ≤ q ∧ q ≤ 2048 ∧ X ≤ Y) ∧ U ≤ V) (M N : Int) (hM : mn4 (fun x y => x - y) X Y U V = M ∧ mx4 (fun x y => x - y) X Y U V = N) : Calls Tryz.prog 126 #[.agg #[.bool b, .slice A n c, .bool b2, .slice A2 n2 c2, .int .i64 q], .agg #[.bool b3, .slice A3 n3 c3, .bool b4, .slice A4 n4 c4, .int .i64 q]] w (OuL w M N q 61) := by
 obtain ⟨rfl, rfl⟩ := hM
 exact LSub_any h h2 h3 h4 hv.1 hv.2 60 (by omega) (by omega) (by omega) (by omega) 61 (by omega) (by omega)
theorem fineLn2_any (W : Nat) (w : World) (hW : 16 ≤ W ∧ W ≤ 1000) (hv : lnLo W ≤ lnHi W) :
  Calls Tryz.prog 129 #[.int .i64 (W : Nat)] w (OuB w (lnLo W * 2) (lnHi W * 2) W 60) := by
 obtain ⟨M0, M, a_M, b_M, k_M, e_M⟩ : ∃ M0 M : Nat, IntKind.i64.wrap ((W : Int).tdiv 3) = (M0 : Int) ∧ IntKind.i64.wrap ((M0 : Int) + 2) = (M : Int) ∧ (1 ≤ M ∧ M ≤ 400) ∧ W / 3 + 2 = M := ⟨W / 3, W / 3 + 2, by rw [Int.tdiv_eq_ediv_of_nonneg (by omega), wrapK (by omega) (by omega)]; omega, by rw [wrapK (by omega) (by omega)]; omega, by omega, rfl⟩
 obtain ⟨P1, hP1⟩ : ∃ e, lnLo W = e := ⟨_, rfl⟩
 obtain ⟨R1, hR1⟩ : ∃ e, lnHi W = e := ⟨_, rfl⟩
 rw [hP1, hR1] at hv ⊢
 have HP1 := Lib.hid hP1; have HR1 := Lib.hid hR1; have HEM := Lib.hid e_M; clear hP1 hR1 e_M
 have HKM : Hid (((W : Int) / 3 + 2) = (M : Int)) := Lib.hid (by have := HEM.out; omega)
 go_enter Tryz.func129, Tryz.ntmps129
 go_wp2_with fail
 refine al1c fun v1 hb x_r => ?_
 replace x_r := Lx.of x_r
 have q_r := x_r.al
 clear q_r
 go_wp2_with fail
 with_reducible refine (lnPart_any W 3 M 3 rfl _ hW (by omega) (by decide) HEM.out _ HKM.out rfl).mono ?_
 rintro e v2 ⟨A5, n5, c5, A6, n6, c6, rfl, z5, z6, hb1⟩
 obtain ⟨x_r, hb⟩ := mv2 hb1 x_r hb
 clear hb1
 rw [HP1.out] at z5 ⊢; rw [HR1.out] at z6 ⊢
 go_wp2_with fail
 with_reducible refine (Ctimes_any z5.zr z6.zr 2 (by omega) ⟨by omega, by omega, hv⟩).mono ?_
 rintro e v3 ⟨A7, n7, c7, A8, n8, c8, rfl, z7, z8, hb1⟩
 obtain ⟨x_r, z5, z6, hb⟩ := mv4 hb1 x_r z5 z6 hb
 clear hb1
 have q_r := x_r.al
 go_wp2
 clear q_r
 refine x_r.st fun v4 hs hx => ?_
 obtain ⟨z5, z6, z7, z8, hb⟩ := ms5 hs ⟨trivial, trivial, trivial, trivial, by omega⟩ z5 z6 z7 z8 hb
 replace x_r := hx; clear hx hs
 have q_r := x_r.al
 skip
 refine bodyPost_ret (v := .agg #[.bool (ngB (P1 * 2)), .slice A7 n7 c7, .bool (ngB (R1 * 2)), .slice A8 n8 c8, .int .i64 (W : Int)]) (by simp [results, Tryz.results129, go_sem, q_r]) rfl ?_
 exact ⟨_, _, _, _, _, _, rfl, z7, z8, hb⟩
theorem finePi_any (W : Nat) (w : World) (hW : 16 ≤ W ∧ W ≤ 1000) (hv : arLo W 5 ≤ arHi W 5) (hv2 : arLo W 239 ≤ arHi W 239) :
  Calls Tryz.prog 177 #[.int .i64 (W : Nat)] w (OuB w (16 * arLo W 5 - 4 * arHi W 239) (16 * arHi W 5 - 4 * arLo W 239) W 61) := by
 obtain ⟨M0, M, a_M, b_M, k_M, e_M⟩ : ∃ M0 M : Nat, IntKind.i64.wrap ((W : Int).tdiv 9) = (M0 : Int) ∧ IntKind.i64.wrap ((M0 : Int) + 2) = (M : Int) ∧ (1 ≤ M ∧ M ≤ 400) ∧ W / 9 + 2 = M := ⟨W / 9, W / 9 + 2, by rw [Int.tdiv_eq_ediv_of_nonneg (by omega), wrapK (by omega) (by omega)]; omega, by rw [wrapK (by omega) (by omega)]; omega, by omega, rfl⟩
 obtain ⟨P1, hP1⟩ : ∃ e, arLo W 5 = e := ⟨_, rfl⟩
 obtain ⟨R1, hR1⟩ : ∃ e, arHi W 5 = e := ⟨_, rfl⟩
 obtain ⟨P2, hP2⟩ : ∃ e, arLo W 239 = e := ⟨_, rfl⟩
 obtain ⟨R2, hR2⟩ : ∃ e, arHi W 239 = e := ⟨_, rfl⟩
 rw [hP1, hR1] at hv
 rw [hP2, hR2] at hv2
 rw [hP1, hR1, hP2, hR2]
 obtain ⟨X1, hX1⟩ : ∃ e, P1 * 16 = e := ⟨_, rfl⟩
 obtain ⟨Y1, hY1⟩ : ∃ e, R1 * 16 = e := ⟨_, rfl⟩
 obtain ⟨X2, hX2⟩ : ∃ e, P2 * 4 = e := ⟨_, rfl⟩
 obtain ⟨Y2, hY2⟩ : ∃ e, R2 * 4 = e := ⟨_, rfl⟩
 have e1 : 16 * P1 - 4 * R2 = X1 - Y2 := by omega
 have e2 : 16 * R1 - 4 * P2 = Y1 - X2 := by omega
 rw [e1, e2]
 obtain ⟨X3, hX3⟩ : ∃ e, X1 - Y2 = e := ⟨_, rfl⟩
 obtain ⟨Y3, hY3⟩ : ∃ e, Y1 - X2 = e := ⟨_, rfl⟩
 rw [hX3, hY3]
 have HMN : Hid (mn4 (fun x y => x - y) X1 Y1 X2 Y2 = X3 ∧ mx4 (fun x y => x - y) X1 Y1 X2 Y2 = Y3) := Lib.hid (by simp only [mn4, mx4]; omega)
 have HV : Hid (P1 ≤ R1 ∧ P2 ≤ R2 ∧ X1 ≤ Y1 ∧ X2 ≤ Y2) := Lib.hid (by omega)
 have HP1 := Lib.hid hP1
 have HR1 := Lib.hid hR1
 have HP2 := Lib.hid hP2
 have HR2 := Lib.hid hR2
 have HX1 := Lib.hid hX1
 have HY1 := Lib.hid hY1
 have HX2 := Lib.hid hX2
 have HY2 := Lib.hid hY2
 have HEM := Lib.hid e_M
 have HKM : Hid (((W : Int) / 9 + 2) = (M : Int)) := Lib.hid (by omega)
 clear e1 e2 e_M hv hv2 hX1 hY1 hX2 hY2 hX3 hY3 hP1 hR1 hP2 hR2
 go_enter Tryz.func177, Tryz.ntmps177
 go_wp2_with fail
 refine al1c fun v1 hb x_r => ?_
 replace x_r := Lx.of x_r
 have q_r := x_r.al
 clear q_r
 go_wp2_with fail
 with_reducible refine (arPart_any W 5 M 5 rfl _ hW (by omega) (by decide) HEM.out _ HKM.out).mono ?_
 rintro e v2 ⟨A5, n5, c5, A6, n6, c6, rfl, z5, z6, hb1⟩
 obtain ⟨x_r, hb⟩ := mv2 hb1 x_r hb
 clear hb1
 rw [HP1.out] at z5 ⊢; rw [HR1.out] at z6 ⊢
 go_wp2_with fail
 with_reducible refine (arPart_any W 239 M 239 rfl _ hW (by omega) (by decide) HEM.out _ HKM.out).mono ?_
 rintro e v3 ⟨A7, n7, c7, A8, n8, c8, rfl, z7, z8, hb1⟩
 obtain ⟨x_r, z5, z6, hb⟩ := mv4 hb1 x_r z5 z6 hb
 clear hb1
 rw [HP2.out] at z7 ⊢; rw [HR2.out] at z8 ⊢
 go_upto_region 3 with fail
 have l_r_c := x_r.lt
 have e_c : w.heap.size ≤ v3.heap.size := hb.size
 refine al2 fun v4 hb1 x_c x_d => ?_
 replace x_c := Lx.of x_c; replace x_d := Lx.of x_d
 obtain ⟨x_r, z5, z6, z7, z8, hb⟩ := mv6 hb1 x_r z5 z6 z7 z8 hb
 clear hb1
 have q_c := x_c.al
 have q_d := x_d.al
 have hv := Below.refl v4.heap.size v4
 have l_r_p := x_r.lt
 have l_c_p := x_c.lt
 have l_d_p := x_d.lt
 go_cut [6] (fun s9 wx => LnNew v4 X3 Y3 (W : Int) 61 61 s9 wx)
 case first =>
  go_region_held3 (fun w' => w'.cell? ⟨v3.heap.size, 0, none⟩ = some (.bool (ngB P1)) ∧ w'.cell? ⟨v3.heap.size, 1, none⟩ = some (.slice A5 n5 c5) ∧ w'.cell? ⟨v3.heap.size, 2, none⟩ = some (.bool (ngB R1)) ∧ w'.cell? ⟨v3.heap.size, 3, none⟩ = some (.slice A6 n6 c6) ∧ w'.cell? ⟨v3.heap.size, 4, none⟩ = some (.int .i64 (W : Int)) ∧ w'.cell? ⟨v3.heap.size + 1, 0, none⟩ = some (.bool (ngB P2)) ∧ w'.cell? ⟨v3.heap.size + 1, 1, none⟩ = some (.slice A7 n7 c7) ∧ w'.cell? ⟨v3.heap.size + 1, 2, none⟩ = some (.bool (ngB R2)) ∧ w'.cell? ⟨v3.heap.size + 1, 3, none⟩ = some (.slice A8 n8 c8) ∧ w'.cell? ⟨v3.heap.size + 1, 4, none⟩ = some (.int .i64 (W : Int)))
   (first | (with_reducible exact ⟨x_c.c0, x_c.c1, x_c.c2, x_c.c3, x_c.c4, x_d.c0, x_d.c1, x_d.c2, x_d.c3, x_d.c4⟩) | (with_reducible exact ⟨(x_c.alloc _).c0, (x_c.alloc _).c1, (x_c.alloc _).c2, (x_c.alloc _).c3, (x_c.alloc _).c4, (x_d.alloc _).c0, (x_d.alloc _).c1, (x_d.alloc _).c2, (x_d.alloc _).c3, (x_d.alloc _).c4⟩) | (with_reducible exact ⟨(x_c.asideL (by omega)).c0, (x_c.asideL (by omega)).c1, (x_c.asideL (by omega)).c2, (x_c.asideL (by omega)).c3, (x_c.asideL (by omega)).c4, (x_d.asideL (by omega)).c0, (x_d.asideL (by omega)).c1, (x_d.asideL (by omega)).c2, (x_d.asideL (by omega)).c3, (x_d.asideL (by omega)).c4⟩) | (with_reducible exact ⟨((x_c.alloc _).asideL (by omega)).c0, ((x_c.alloc _).asideL (by omega)).c1, ((x_c.alloc _).asideL (by omega)).c2, ((x_c.alloc _).asideL (by omega)).c3, ((x_c.alloc _).asideL (by omega)).c4, ((x_d.alloc _).asideL (by omega)).c0, ((x_d.alloc _).asideL (by omega)).c1, ((x_d.alloc _).asideL (by omega)).c2, ((x_d.alloc _).asideL (by omega)).c3, ((x_d.alloc _).asideL (by omega)).c4⟩) | go_keep)
   (first | (go_at_call 141; (with_reducible refine (Ctimes_any z5.drw.zr z6.drw.zr 16 (by omega) ⟨by omega, by omega, HV.out.1⟩).mono ?_); rintro e v5 ⟨A11, n11, c11, A12, n12, c12, rfl, z11, z12, hb1⟩; replace hb1 := undrew hb1; (try replace x_p := x_p.keep hb1); replace hv := bthen hv hb1; have hvs_v5 := hv.size; obtain ⟨x_r, x_c, x_d, z5, z6, z7, z8, hb⟩ := mv8 hb1 x_r x_c x_d z5 z6 z7 z8 hb; clear hb1; replace q_c := x_c.al; replace q_d := x_d.al; rw [HX1.out] at z11 ⊢; rw [HY1.out] at z12 ⊢; (try (have q_p0 := x_p.c0; have f_p0 := x_p.fr 0; have q_p1 := x_p.c1; have f_p1 := x_p.fr 1; have q_p2 := x_p.c2; have f_p2 := x_p.fr 2; have q_p3 := x_p.c3; have f_p3 := x_p.fr 3; have q_p4 := x_p.c4; have f_p4 := x_p.fr 4))) | (go_at_call 141; (with_reducible refine (Ctimes_any (z5.keep (below_alloc v4 (.cells #[.bool false, .slice none 0 0, .bool false, .slice none 0 0, .int .i64 0] 31))).drw.zr (z6.keep (below_alloc v4 (.cells #[.bool false, .slice none 0 0, .bool false, .slice none 0 0, .int .i64 0] 31))).drw.zr 16 (by omega) ⟨by omega, by omega, HV.out.1⟩).mono ?_); rintro e v5 ⟨A11, n11, c11, A12, n12, c12, rfl, z11, z12, hb1⟩; replace hb1 := undrew hb1; have x_p := (Lx.new v4 false none 0 0 false none 0 0 0).keep hb1; replace hb1 := bthen (below_alloc v4 (.cells #[.bool false, .slice none 0 0, .bool false, .slice none 0 0, .int .i64 0] 31)) hb1; replace hv := bthen hv hb1; have hvs_v5 := hv.size; obtain ⟨x_r, x_c, x_d, z5, z6, z7, z8, hb⟩ := mv8 hb1 x_r x_c x_d z5 z6 z7 z8 hb; clear hb1; replace q_c := x_c.al; replace q_d := x_d.al; rw [HX1.out] at z11 ⊢; rw [HY1.out] at z12 ⊢; (try (have q_p0 := x_p.c0; have f_p0 := x_p.fr 0; have q_p1 := x_p.c1; have f_p1 := x_p.fr 1; have q_p2 := x_p.c2; have f_p2 := x_p.fr 2; have q_p3 := x_p.c3; have f_p3 := x_p.fr 3; have q_p4 := x_p.c4; have f_p4 := x_p.fr 4))) | (go_at_call 141; (with_reducible refine (Ctimes_any z7.zr z8.zr 4 (by omega) ⟨by omega, by omega, HV.out.2.1⟩).mono ?_); rintro e v6 ⟨A13, n13, c13, A14, n14, c14, rfl, z13, z14, hb1⟩; (try replace x_p := x_p.keep hb1); replace hv := bthen hv hb1; have hvs_v6 := hv.size; obtain ⟨x_r, x_c, x_d, z5, z6, z7, z8, z11, z12⟩ := mv9 hb1 x_r x_c x_d z5 z6 z7 z8 z11 z12; replace hb := Mv.mv hb hb1; clear hb1; replace q_c := x_c.al; replace q_d := x_d.al; rw [HX2.out] at z13 ⊢; rw [HY2.out] at z14 ⊢; (try (have q_p0 := x_p.c0; have f_p0 := x_p.fr 0; have q_p1 := x_p.c1; have f_p1 := x_p.fr 1; have q_p2 := x_p.c2; have f_p2 := x_p.fr 2; have q_p3 := x_p.c3; have f_p3 := x_p.fr 3; have q_p4 := x_p.c4; have f_p4 := x_p.fr 4))) | (go_at_call 141; (with_reducible refine (Ctimes_any (z7.keep (below_alloc v5 (.cells #[.bool false, .slice none 0 0, .bool false, .slice none 0 0, .int .i64 0] 31))).zr (z8.keep (below_alloc v5 (.cells #[.bool false, .slice none 0 0, .bool false, .slice none 0 0, .int .i64 0] 31))).zr 4 (by omega) ⟨by omega, by omega, HV.out.2.1⟩).mono ?_); rintro e v6 ⟨A13, n13, c13, A14, n14, c14, rfl, z13, z14, hb1⟩; have x_p := (Lx.new v5 false none 0 0 false none 0 0 0).keep hb1; replace hb1 := bthen (below_alloc v5 (.cells #[.bool false, .slice none 0 0, .bool false, .slice none 0 0, .int .i64 0] 31)) hb1; replace hv := bthen hv hb1; have hvs_v6 := hv.size; obtain ⟨x_r, x_c, x_d, z5, z6, z7, z8, z11, z12⟩ := mv9 hb1 x_r x_c x_d z5 z6 z7 z8 z11 z12; replace hb := Mv.mv hb hb1; clear hb1; replace q_c := x_c.al; replace q_d := x_d.al; rw [HX2.out] at z13 ⊢; rw [HY2.out] at z14 ⊢; (try (have q_p0 := x_p.c0; have f_p0 := x_p.fr 0; have q_p1 := x_p.c1; have f_p1 := x_p.fr 1; have q_p2 := x_p.c2; have f_p2 := x_p.fr 2; have q_p3 := x_p.c3; have f_p3 := x_p.fr 3; have q_p4 := x_p.c4; have f_p4 := x_p.fr 4))) | (go_at_call 126; (with_reducible refine (LSub_at z11.zr z12.zr z13.zr z14.zr ⟨⟨by omega, by omega, HV.out.2.2.1⟩, HV.out.2.2.2⟩ _ _ HMN.out).mono ?_); rintro e v7 ⟨A15, n15, c15, A16, n16, c16, rfl, z15, z16, hb1⟩; (try replace x_p := x_p.keep hb1); replace hv := bthen hv hb1; have hvs_v7 := hv.size; obtain ⟨x_r, x_c, x_d, z5, z6, z7, z8, z11, z12⟩ := mv9 hb1 x_r x_c x_d z5 z6 z7 z8 z11 z12; obtain ⟨z13, z14, hb⟩ := mv3 hb1 z13 z14 hb; clear hb1; replace q_c := x_c.al; replace q_d := x_d.al; (try (have q_p0 := x_p.c0; have f_p0 := x_p.fr 0; have q_p1 := x_p.c1; have f_p1 := x_p.fr 1; have q_p2 := x_p.c2; have f_p2 := x_p.fr 2; have q_p3 := x_p.c3; have f_p3 := x_p.fr 3; have q_p4 := x_p.c4; have f_p4 := x_p.fr 4))) | (go_at_call 126; (with_reducible refine (LSub_at (z11.keep (below_alloc v6 (.cells #[.bool false, .slice none 0 0, .bool false, .slice none 0 0, .int .i64 0] 31))).zr (z12.keep (below_alloc v6 (.cells #[.bool false, .slice none 0 0, .bool false, .slice none 0 0, .int .i64 0] 31))).zr (z13.keep (below_alloc v6 (.cells #[.bool false, .slice none 0 0, .bool false, .slice none 0 0, .int .i64 0] 31))).zr (z14.keep (below_alloc v6 (.cells #[.bool false, .slice none 0 0, .bool false, .slice none 0 0, .int .i64 0] 31))).zr ⟨⟨by omega, by omega, HV.out.2.2.1⟩, HV.out.2.2.2⟩ _ _ HMN.out).mono ?_); rintro e v7 ⟨A15, n15, c15, A16, n16, c16, rfl, z15, z16, hb1⟩; have x_p := (Lx.new v6 false none 0 0 false none 0 0 0).keep hb1; replace hb1 := bthen (below_alloc v6 (.cells #[.bool false, .slice none 0 0, .bool false, .slice none 0 0, .int .i64 0] 31)) hb1; replace hv := bthen hv hb1; have hvs_v7 := hv.size; obtain ⟨x_r, x_c, x_d, z5, z6, z7, z8, z11, z12⟩ := mv9 hb1 x_r x_c x_d z5 z6 z7 z8 z11 z12; obtain ⟨z13, z14, hb⟩ := mv3 hb1 z13 z14 hb; clear hb1; replace q_c := x_c.al; replace q_d := x_d.al; (try (have q_p0 := x_p.c0; have f_p0 := x_p.fr 0; have q_p1 := x_p.c1; have f_p1 := x_p.fr 1; have q_p2 := x_p.c2; have f_p2 := x_p.fr 2; have q_p3 := x_p.c3; have f_p3 := x_p.fr 3; have q_p4 := x_p.c4; have f_p4 := x_p.fr 4))))
  all_goals go_wp2_with fail
  all_goals go_meet
  all_goals first | (with_reducible exact LnNew.new hv z15 z16) | (with_reducible exact LnNew.put hv x_p (by omega) z15 z16)
 obtain ⟨g8, Ax9, nx9, cx9, Ay9, ny9, cy9, rfl, x_p, z1_p, z2_p, e_p, hb1⟩ := hcut
 clear hv
 obtain ⟨x_r, x_c, x_d, z5, z6, z7, z8, hb⟩ := mv8 hb1 x_r x_c x_d z5 z6 z7 z8 hb
 clear hb1
 replace q_c := x_c.al
 replace q_d := x_d.al
 clear q_c q_d
 generalize wc = v10 at *
 have q_c := x_c.al
 have q_d := x_d.al
 have q_p := x_p.al
 have q_r := x_r.al
 go_wp2
 clear q_r q_c q_d q_p
 refine x_r.st fun v11 hs hx => ?_
 obtain ⟨x_c, x_d, x_p, z5, z6, z7, z8, z1_p, z2_p⟩ := ms9 hs ⟨by omega, by omega, by omega, trivial, trivial, trivial, trivial, trivial, trivial⟩ x_c x_d x_p z5 z6 z7 z8 z1_p z2_p
 replace hb := Ms.ms hs (by omega) hb
 replace x_r := hx; clear hx hs
 have q_r := x_r.al
 have q_c := x_c.al
 have q_d := x_d.al
 have q_p := x_p.al
 skip
 refine bodyPost_ret (v := .agg #[.bool (ngB X3), .slice Ax9 nx9 cx9, .bool (ngB Y3), .slice Ay9 ny9 cy9, .int .i64 (W : Int)]) (by simp [results, Tryz.results177, go_sem, q_r]) rfl ?_
 exact ⟨_, _, _, _, _, _, rfl, z1_p, z2_p, hb⟩
theorem rounded_yes {fid : Nat} (hent : ∀ (args : Array Value) (w : World), (callFunc fid args).run Tryz.prog w = .ok (.enter fid args) w) (X Y : Int) (q : Nat) (w : World) (hq : q ≤ 900) (hXY : X ≤ Y)
  (hat : ∀ w' : World, Calls Tryz.prog fid #[.int .i64 ((q + 16 : Nat) : Int)] w' (OuB w' X Y ((q + 16 : Nat) : Int) 61)) :
  Calls Tryz.prog 128 #[.func (.func fid) #[] #[], .int .i64 (q : Nat)] w (OuL w (X / 65536) (-(-Y / 65536)) q 200) := by
 have e0 := fl16 X q
 have e1 := fl16 (-Y) q
 obtain ⟨W, hWq⟩ : ∃ W, q + 16 = W := ⟨_, rfl⟩
 rw [hWq] at hat
 have a_W : IntKind.i64.wrap ((q : Int) + 16) = (W : Int) := by rw [wrapK (by omega) (by omega)]; omega
 have hc : ((q : Int) + 16) = (W : Int) := by omega
 rw [hc] at e0 e1
 obtain ⟨L0, hL0⟩ : ∃ e, X / 65536 = e := ⟨_, rfl⟩
 obtain ⟨H0, hH0⟩ : ∃ e, -(-Y / 65536) = e := ⟨_, rfl⟩
 rw [hL0] at e0
 rw [hL0, hH0]
 have e2 : -flI (-Y) (-(W : Int) + q) = H0 := by rw [e1]; exact hH0
 have HFl := Lib.hid e0; have HFh := Lib.hid e2; have HAT := Lib.hid hat; have HXY := Lib.hid hXY; have HC := Lib.hid hc
 have hW : 16 ≤ W ∧ W ≤ 1000 := by omega
 clear hL0 hH0 e0 e1 e2 hat hXY hWq hc
 go_enter Tryz.func128, Tryz.ntmps128
 go_wp2_with fail
 refine al1c fun v1 hb x_r => ?_
 replace x_r := Lx.of x_r
 have q_r := x_r.al
 clear q_r
 go_wp2_with fail
 with_reducible refine (HAT.out _).mono ?_
 rintro e v2 ⟨A5, n5, c5, A6, n6, c6, rfl, z5, z6, hb1⟩
 obtain ⟨x_r, hb⟩ := mv2 hb1 x_r hb
 clear hb1
 go_wp2_with fail
 with_reducible refine (Recast_yes z5.zr z6.zr q ⟨by omega, by omega, HXY.out⟩ (by omega) 200 (by omega) (by omega) (by omega)).mono ?_
 rintro e v3 ⟨A17, n17, c17, A18, n18, c18, rfl, z17, z18, hb1⟩
 obtain ⟨x_r, z5, z6, hb⟩ := mv4 hb1 x_r z5 z6 hb
 clear hb1
 rw [HFl.out] at z17 ⊢; rw [HFh.out] at z18 ⊢
 have q_r := x_r.al
 go_wp2
 clear q_r
 refine x_r.st fun v4 hs hx => ?_
 obtain ⟨z5, z6, z17, z18, hb⟩ := ms5 hs ⟨trivial, trivial, trivial, trivial, by omega⟩ z5 z6 z17 z18 hb
 replace x_r := hx; clear hx hs
 have q_r := x_r.al
 skip
 refine bodyPost_ret (v := .tuple #[.agg #[.bool (ngB L0), .slice A17 n17 c17, .bool (ngB H0), .slice A18 n18 c18, .int .i64 (q : Int)], .int .i64 0]) (by simp [results, Tryz.results128, go_sem, q_r]) rfl ?_
 exact ⟨_, _, _, _, _, _, rfl, z17, z18, hb⟩
theorem ent_fineLn2 : ∀ (args : Array Value) (w : World), (callFunc 129 args).run Tryz.prog w = .ok (.enter 129 args) w := enters_of Tryz.func129 (by kernel_rfl) rfl
theorem ent_finePi : ∀ (args : Array Value) (w : World), (callFunc 177 args).run Tryz.prog w = .ok (.enter 177 args) w := enters_of Tryz.func177 (by kernel_rfl) rfl
theorem OuB.wide {w' : World} {k j : Nat} {e : Ending} (h : OuB w X Y q k e w') (hk : k ≤ j) : OuB w X Y q j e w' := by
 obtain ⟨A, n, c, A2, n2, c2, rfl, z, z2, hb⟩ := h
 exact ⟨A, n, c, A2, n2, c2, rfl, z.wide hk, z2.wide hk, hb⟩
theorem lnRounded (q : Nat) (w : World) (hq : q < 256 ∨ q = 400 ∨ q = 600 ∨ q = 800) : Calls Tryz.prog 128 #[.func (.func 129) #[] #[], .int .i64 (q : Nat)] w (OuL w (lnA q) (lnZ q) q 200) := by
 have hv := (v_in q hq).1
 have h := rounded_yes ent_fineLn2 (lnLo (q + 16) * 2) (lnHi (q + 16) * 2) q w (by omega) (by omega) (fun w' => (fineLn2_any (q + 16) w' (by omega) hv).mono fun e w2 he => he.wide (by omega))
 rw [show lnLo (q + 16) * 2 / 65536 = lnA q by unfold lnA; rw [Int.mul_comm], show -(-(lnHi (q + 16) * 2) / 65536) = lnZ q by unfold lnZ; rw [Int.mul_comm]] at h
 exact h
theorem piRounded (q : Nat) (w : World) (hq : q < 256 ∨ q = 400 ∨ q = 600 ∨ q = 800) : Calls Tryz.prog 128 #[.func (.func 177) #[] #[], .int .i64 (q : Nat)] w (OuL w (piA q) (piZ q) q 200) := by
 have hv := (v_in q hq).2
 exact rounded_yes ent_finePi (16 * arLo (q + 16) 5 - 4 * arHi (q + 16) 239) (16 * arHi (q + 16) 5 - 4 * arLo (q + 16) 239) q w (by omega) (by omega) (fun w' => finePi_any (q + 16) w' (by omega) hv.1 hv.2)
theorem KLn2_yes (q : Nat) (w : World) (hq : q < 256 ∨ q = 400 ∨ q = 600 ∨ q = 800) :
  Calls Tryz.prog 121 #[.int .i64 (q : Nat)] w (OuL w (lnA q) (lnZ q) q 200) := by
 obtain ⟨L0, hL0⟩ : ∃ e, lnA q = e := ⟨_, rfl⟩
 obtain ⟨H0, hH0⟩ : ∃ e, lnZ q = e := ⟨_, rfl⟩
 have hr := fun w => lnRounded q w hq
 rw [hL0, hH0] at hr ⊢
 have HRN := Lib.hid hr; clear hr hL0 hH0 hq
 go_enter Tryz.func121, Tryz.ntmps121
 go_wp2_with fail
 refine al1c fun v1 hb x_r => ?_
 replace x_r := Lx.of x_r
 have q_r := x_r.al
 clear q_r
 go_wp2_with fail
 with_reducible refine (HRN.out _).mono ?_
 rintro e v2 ⟨A17, n17, c17, A18, n18, c18, rfl, z17, z18, hb1⟩
 obtain ⟨x_r, hb⟩ := mv2 hb1 x_r hb
 clear hb1
 have q_r := x_r.al
 go_wp2
 clear q_r
 refine x_r.st fun v3 hs hx => ?_
 obtain ⟨z17, z18, hb⟩ := ms3 hs ⟨trivial, trivial, by omega⟩ z17 z18 hb
 replace x_r := hx; clear hx hs
 have q_r := x_r.al
 skip
 refine bodyPost_ret (v := .tuple #[.agg #[.bool (ngB L0), .slice A17 n17 c17, .bool (ngB H0), .slice A18 n18 c18, .int .i64 (q : Int)], .int .i64 0]) (by simp [results, Tryz.results121, go_sem, q_r]) rfl ?_
 exact ⟨_, _, _, _, _, _, rfl, z17, z18, hb⟩
theorem KPi_yes (q : Nat) (w : World) (hq : q < 256 ∨ q = 400 ∨ q = 600 ∨ q = 800) :
  Calls Tryz.prog 173 #[.int .i64 (q : Nat)] w (OuL w (piA q) (piZ q) q 200) := by
 obtain ⟨L0, hL0⟩ : ∃ e, piA q = e := ⟨_, rfl⟩
 obtain ⟨H0, hH0⟩ : ∃ e, piZ q = e := ⟨_, rfl⟩
 have hr := fun w => piRounded q w hq
 rw [hL0, hH0] at hr ⊢
 have HRN := Lib.hid hr; clear hr hL0 hH0 hq
 go_enter Tryz.func173, Tryz.ntmps173
 go_wp2_with fail
 refine al1c fun v1 hb x_r => ?_
 replace x_r := Lx.of x_r
 have q_r := x_r.al
 clear q_r
 go_wp2_with fail
 with_reducible refine (HRN.out _).mono ?_
 rintro e v2 ⟨A17, n17, c17, A18, n18, c18, rfl, z17, z18, hb1⟩
 obtain ⟨x_r, hb⟩ := mv2 hb1 x_r hb
 clear hb1
 have q_r := x_r.al
 go_wp2
 clear q_r
 refine x_r.st fun v3 hs hx => ?_
 obtain ⟨z17, z18, hb⟩ := ms3 hs ⟨trivial, trivial, by omega⟩ z17 z18 hb
 replace x_r := hx; clear hx hs
 have q_r := x_r.al
 skip
 refine bodyPost_ret (v := .tuple #[.agg #[.bool (ngB L0), .slice A17 n17 c17, .bool (ngB H0), .slice A18 n18 c18, .int .i64 (q : Int)], .int .i64 0]) (by simp [results, Tryz.results173, go_sem, q_r]) rfl ?_
 exact ⟨_, _, _, _, _, _, rfl, z17, z18, hb⟩
end Go.Proofs.YtjlbngjeekdfcaaGreatDoor
