/-
 the document's answers for consts: Ln2.
-/
import Derived.Test.YtiikmjnnlckiiaaGreatQarc
import Derived.Test.YtiikmjnnlckiiaaGreatRath
import Derived.Test.YtiikmjnnlckiiaaGreatLrtimes
import Derived.Test.YtiikmjnnlckiiaaGreatLref
namespace Go.Proofs.YtiikmjnnlckiiaaGreat
open Go.RowKit
set_option linter.unusedVariables false

set_option maxRecDepth 100000 in
set_option maxHeartbeats 16000000 in
theorem RLn2_yes (q : Nat) (w : World) (hq : q ≤ 900) (hv : lnLo (q + 16) ≤ lnHi (q + 16)) :
  Calls Tryz.prog 6 #[.int .i64 (q : Nat)] w (OuL w (lnA q) (lnZ q) q 200) := by
 have e0 := fl16 (2 * lnLo (q + 16)) q
 have e1 := fl16 (-(2 * lnHi (q + 16))) q
 obtain ⟨W, hWq⟩ : ∃ W, q + 16 = W := ⟨_, rfl⟩
 have hW : 16 ≤ W ∧ W ≤ 1000 := by omega
 have a_W : IntKind.i64.wrap ((q : Int) + 16) = (W : Int) := by rw [wrapK (by omega) (by omega)]; omega
 have hbd := pt_bd (m := 3) hW (by omega)
 obtain ⟨D, hD⟩ : ∃ e, ptN W 3 = e := ⟨_, rfl⟩
 obtain ⟨M0, M, a_M, b_M, k_M, e_M⟩ : ∃ M0 M : Nat, IntKind.i64.wrap ((W : Int).tdiv 3) = (M0 : Int) ∧ IntKind.i64.wrap ((M0 : Int) + 2) = (M : Int) ∧ (1 ≤ M ∧ M ≤ 400) ∧ W / 3 + 2 = M := ⟨W / 3, W / 3 + 2, by rw [Int.tdiv_eq_ediv_of_nonneg (by omega), wrapK (by omega) (by omega)]; omega, by rw [wrapK (by omega) (by omega)]; omega, by omega, rfl⟩
 obtain ⟨P1, hP1⟩ : ∃ e, rwLo 1 D W M = e := ⟨_, rfl⟩
 obtain ⟨R1, hR1⟩ : ∃ e, rwHi 1 D W M = e := ⟨_, rfl⟩
 obtain ⟨P2, hP2⟩ : ∃ e, rwLo 1 (D + 1) W M = e := ⟨_, rfl⟩
 obtain ⟨R2, hR2⟩ : ∃ e, rwHi 1 (D + 1) W M = e := ⟨_, rfl⟩
 rw [hD] at hbd
 have BP1 : Hid (Si P1 20 ∧ Si R1 20) := Lib.hid (by rw [← hP1, ← hR1]; exact rw_si (by omega) (by omega) (by omega) (by omega) (by omega))
 have BP2 : Hid (Si P2 20 ∧ Si R2 20) := Lib.hid (by rw [← hP2, ← hR2]; exact rw_si (by omega) (by omega) (by omega) (by omega) (by omega))
 have hlo : lnLo W = P1 := by rw [← hP1, ← hD, ← e_M]; rfl
 have hhi : lnHi W = R2 := by rw [← hR2, ← hD, ← e_M, show ptN W 3 + 1 = ((2 ^ W / 3 + 1 : Nat) : Int) by unfold ptN; push_cast; rfl]; rfl
 have HP1 := Lib.hid hP1
 have HR1 := Lib.hid hR1
 have HP2 := Lib.hid hP2
 have HR2 := Lib.hid hR2
 have HD := Lib.hid hD
 have HBD := Lib.hid hbd
 have HKM : Hid (((W : Int) / 3 + 2) = (M : Int)) := Lib.hid (by omega)
 clear hbd hD hP1 hR1 hP2 hR2 e_M
 have hc : ((q : Int) + 16) = (W : Int) := by omega
 rw [hWq] at hv e0 e1
 rw [hc, hlo] at e0
 rw [hc, hhi] at e1
 rw [hlo, hhi] at hv
 obtain ⟨L0, hL0⟩ : ∃ e, lnA q = e := ⟨_, rfl⟩
 obtain ⟨H0, hH0⟩ : ∃ e, lnZ q = e := ⟨_, rfl⟩
 rw [hL0, hH0]
 have hA : 2 * P1 / 65536 = L0 := by rw [← hL0, ← hlo, ← hWq]; rfl
 have hZ : -(-(2 * R2) / 65536) = H0 := by rw [← hH0, ← hhi, ← hWq]; rfl
 rw [hA] at e0
 have e2 : -flI (-(2 * R2)) (-(W : Int) + q) = H0 := by rw [e1]; exact hZ
 obtain ⟨X2, hX2⟩ : ∃ e, 2 * P1 = e := ⟨_, rfl⟩
 obtain ⟨Y2, hY2⟩ : ∃ e, 2 * R2 = e := ⟨_, rfl⟩
 rw [hX2] at e0
 rw [hY2] at e2
 have HTm : Hid (min (P1 * 2) (R2 * 2) = X2) := Lib.hid (by omega)
 have HTx : Hid (max (P1 * 2) (R2 * 2) = Y2) := Lib.hid (by omega)
 have HXY : Hid (P1 ≤ R2 ∧ X2 ≤ Y2) := Lib.hid (by omega)
 have HFl := Lib.hid e0; have HFh := Lib.hid e2; have HL0 := Lib.hid hL0; have HH0 := Lib.hid hH0; have HWQ := Lib.hid hWq; have HC := Lib.hid hc
 clear e0 e1 e2 hA hZ hL0 hH0 hX2 hY2 hlo hhi hv hc hWq
 go_enter Tryz.func6, Tryz.ntmps6
 go_upto_region 1 with fail
 have x_r : Lx (w.alloc (.cells #[.bool false, .slice none 0 0, .bool false, .slice none 0 0, .int .i64 0] 27)) (w.heap.size) false none 0 0 false none 0 0 0 := by have := Lx.new w false none 0 0 false none 0 0 0; simpa using this
 have hb : Below w.heap.size w (w.alloc (.cells #[.bool false, .slice none 0 0, .bool false, .slice none 0 0, .int .i64 0] 27)) := (Below.alloc (Below.refl w.heap.size w) (by simp) (.cells #[.bool false, .slice none 0 0, .bool false, .slice none 0 0, .int .i64 0] 27))
 generalize w.alloc (.cells #[.bool false, .slice none 0 0, .bool false, .slice none 0 0, .int .i64 0] 27) = v1 at *
 have q_r := x_r.al
 clear q_r
 go_wp2_with fail
 with_reducible refine (RPart_at W 3 3 rfl _ hW (by omega)).mono ?_
 rintro e v2 ⟨A5, n5, c5, A6, n6, c6, rfl, z5, z6, hb1⟩
 replace x_r := x_r.keep hb1
 replace hb := bthen hb hb1
 clear hb1
 rw [HD.out] at z5 z6 ⊢
 go_upto_region 5 with fail
 have l_r_d := x_r.lt
 have e_d : w.heap.size ≤ v2.heap.size := hb.size
 have hb1 := below_alloc2 v2 (.cells #[.bool (ngB D), .slice A5 n5 c5] 25) (.cells #[.bool (ngB (D + 1)), .slice A6 n6 c6] 25)
 have x_d := (Bx.new v2 (ngB D) A5 n5 c5).alloc (.cells #[.bool (ngB (D + 1)), .slice A6 n6 c6] 25)
 have x_u : Bx ((v2.alloc (.cells #[.bool (ngB D), .slice A5 n5 c5] 25)).alloc (.cells #[.bool (ngB (D + 1)), .slice A6 n6 c6] 25)) (v2.heap.size + 1) (ngB (D + 1)) A6 n6 c6 := by have := Bx.new (v2.alloc (.cells #[.bool (ngB D), .slice A5 n5 c5] 25)) (ngB (D + 1)) A6 n6 c6; simpa using this
 obtain ⟨x_r, z5, z6⟩ := mv3 hb1 x_r z5 z6
 replace hb := bthen hb hb1
 clear hb1
 generalize (v2.alloc (.cells #[.bool (ngB D), .slice A5 n5 c5] 25)).alloc (.cells #[.bool (ngB (D + 1)), .slice A6 n6 c6] 25) = v3 at *
 have q_d := x_d.al
 have q_u := x_u.al
 go_wp2_with fail
 with_reducible refine (RAtanh_at z5.zr W M _ HKM.out (by omega) k_M (by have := HBD.out; omega) (by omega)).mono ?_
 rintro e v4 ⟨A20, n20, c20, A21, n21, c21, rfl, z20, z21, hb1⟩
 obtain ⟨x_r, x_d, x_u, z5, z6⟩ := mv5 hb1 x_r x_d x_u z5 z6
 replace hb := bthen hb hb1
 clear hb1
 replace q_d := x_d.al
 replace q_u := x_u.al
 rw [HP1.out] at z20 ⊢; rw [HR1.out] at z21 ⊢
 replace z20 := z20.slim BP1.out.1; replace z21 := z21.slim BP1.out.2
 have y_d := ((x_d.alloc (.cells #[.bool (ngB P1), .slice A20 n20 c20] 25)).alloc (.cells #[.bool (ngB R1), .slice A21 n21 c21] 25)); have yq_d0 := y_d.c0; have yq_d1 := y_d.c1
 have y_u := ((x_u.alloc (.cells #[.bool (ngB P1), .slice A20 n20 c20] 25)).alloc (.cells #[.bool (ngB R1), .slice A21 n21 c21] 25)); have yq_u0 := y_u.c0; have yq_u1 := y_u.c1
 go_upto_region 6 with fail
 clear y_d yq_d0 yq_d1 y_u yq_u0 yq_u1
 have l_r_c := x_r.lt
 have l_d_c := x_d.lt
 have l_u_c := x_u.lt
 have e_c : w.heap.size ≤ v4.heap.size := hb.size
 have hb1 := below_alloc2 v4 (.cells #[.bool (ngB P1), .slice A20 n20 c20] 25) (.cells #[.bool (ngB R1), .slice A21 n21 c21] 25)
 have x_c := (Bx.new v4 (ngB P1) A20 n20 c20).alloc (.cells #[.bool (ngB R1), .slice A21 n21 c21] 25)
 have x_e : Bx ((v4.alloc (.cells #[.bool (ngB P1), .slice A20 n20 c20] 25)).alloc (.cells #[.bool (ngB R1), .slice A21 n21 c21] 25)) (v4.heap.size + 1) (ngB R1) A21 n21 c21 := by have := Bx.new (v4.alloc (.cells #[.bool (ngB P1), .slice A20 n20 c20] 25)) (ngB R1) A21 n21 c21; simpa using this
 clear q_d q_u
 obtain ⟨x_r, x_d, x_u, z5, z6, z20, z21⟩ := mv7 hb1 x_r x_d x_u z5 z6 z20 z21
 replace hb := bthen hb hb1
 clear hb1
 generalize (v4.alloc (.cells #[.bool (ngB P1), .slice A20 n20 c20] 25)).alloc (.cells #[.bool (ngB R1), .slice A21 n21 c21] 25) = v5 at *
 have q_d := x_d.al
 have q_u := x_u.al
 have q_c := x_c.al
 have q_e := x_e.al
 clear q_d
 clear q_e
 go_wp2_with fail
 with_reducible refine (RAtanh_at z6.zr W M _ HKM.out (by omega) k_M (by have := HBD.out; omega) (by omega)).mono ?_
 rintro e v6 ⟨A30, n30, c30, A31, n31, c31, rfl, z30, z31, hb1⟩
 obtain ⟨x_r, x_d, x_u, x_c, x_e, z5, z6, z20, z21⟩ := mv9 hb1 x_r x_d x_u x_c x_e z5 z6 z20 z21
 replace hb := bthen hb hb1
 clear hb1
 replace q_u := x_u.al
 replace q_c := x_c.al
 rw [HP2.out] at z30 ⊢; rw [HR2.out] at z31 ⊢
 replace z30 := z30.slim BP2.out.1; replace z31 := z31.slim BP2.out.2
 have y_u := ((x_u.alloc (.cells #[.bool (ngB P2), .slice A30 n30 c30] 25)).alloc (.cells #[.bool (ngB R2), .slice A31 n31 c31] 25)); have yq_u0 := y_u.c0; have yq_u1 := y_u.c1
 have y_c := ((x_c.alloc (.cells #[.bool (ngB P2), .slice A30 n30 c30] 25)).alloc (.cells #[.bool (ngB R2), .slice A31 n31 c31] 25)); have yq_c0 := y_c.c0; have yq_c1 := y_c.c1
 go_upto_region 7 with fail
 clear y_u yq_u0 yq_u1 y_c yq_c0 yq_c1
 have l_r_f := x_r.lt
 have l_d_f := x_d.lt
 have l_u_f := x_u.lt
 have l_c_f := x_c.lt
 have l_e_f := x_e.lt
 have e_f : w.heap.size ≤ v6.heap.size := hb.size
 have hb1 := below_alloc2 v6 (.cells #[.bool (ngB P2), .slice A30 n30 c30] 25) (.cells #[.bool (ngB R2), .slice A31 n31 c31] 25)
 have x_f := (Bx.new v6 (ngB P2) A30 n30 c30).alloc (.cells #[.bool (ngB R2), .slice A31 n31 c31] 25)
 have x_g : Bx ((v6.alloc (.cells #[.bool (ngB P2), .slice A30 n30 c30] 25)).alloc (.cells #[.bool (ngB R2), .slice A31 n31 c31] 25)) (v6.heap.size + 1) (ngB R2) A31 n31 c31 := by have := Bx.new (v6.alloc (.cells #[.bool (ngB P2), .slice A30 n30 c30] 25)) (ngB R2) A31 n31 c31; simpa using this
 clear q_u q_c
 obtain ⟨x_r, x_d, x_u, x_c, x_e, z5, z6, z20, z21⟩ := mv9 hb1 x_r x_d x_u x_c x_e z5 z6 z20 z21
 obtain ⟨z30, z31⟩ := mv2 hb1 z30 z31
 replace hb := bthen hb hb1
 clear hb1
 generalize (v6.alloc (.cells #[.bool (ngB P2), .slice A30 n30 c30] 25)).alloc (.cells #[.bool (ngB R2), .slice A31 n31 c31] 25) = v7 at *
 have q_u := x_u.al
 have q_c := x_c.al
 have q_f := x_f.al
 have q_g := x_g.al
 clear q_u
 clear q_f
 go_upto_region 7 with fail
 have hv := Below.refl v7.heap.size v7
 have l_r_b := x_r.lt
 have l_d_b := x_d.lt
 have l_u_b := x_u.lt
 have l_c_b := x_c.lt
 have l_e_b := x_e.lt
 have l_f_b := x_f.lt
 have l_g_b := x_g.lt
 go_cut [13] (fun s9 wx => LxNew v7 X2 Y2 (W : Int) 60 60 s9 wx)
 case first =>
  go_region_held3 (fun w' => w'.cell? ⟨v4.heap.size, 0, none⟩ = some (.bool (ngB P1)) ∧ w'.cell? ⟨v4.heap.size, 1, none⟩ = some (.slice A20 n20 c20) ∧ w'.cell? ⟨v6.heap.size + 1, 0, none⟩ = some (.bool (ngB R2)) ∧ w'.cell? ⟨v6.heap.size + 1, 1, none⟩ = some (.slice A31 n31 c31))
   (first | (with_reducible exact ⟨x_c.c0, x_c.c1, x_g.c0, x_g.c1⟩) | (with_reducible exact ⟨(x_c.alloc _).c0, (x_c.alloc _).c1, (x_g.alloc _).c0, (x_g.alloc _).c1⟩) | (with_reducible exact ⟨(x_c.asideL (by omega)).c0, (x_c.asideL (by omega)).c1, (x_g.asideL (by omega)).c0, (x_g.asideL (by omega)).c1⟩) | (with_reducible exact ⟨((x_c.alloc _).asideL (by omega)).c0, ((x_c.alloc _).asideL (by omega)).c1, ((x_g.alloc _).asideL (by omega)).c0, ((x_g.alloc _).asideL (by omega)).c1⟩) | go_keep)
   (first | (go_at_call 16; (with_reducible refine (ROf_any 2 (by omega) (by omega)).mono ?_); rintro e v8 ⟨A9, n9, c9, rfl, z9, hb1⟩; replace hb1 := undrew hb1; (try replace x_b := x_b.keep hb1); replace hv := bthen hv hb1; have hvs_v8 := hv.size; obtain ⟨x_r, x_d, x_u, x_c, x_e, x_f, x_g, z5, z6⟩ := mv9 hb1 x_r x_d x_u x_c x_e x_f x_g z5 z6; obtain ⟨z20, z21, z30, z31⟩ := mv4 hb1 z20 z21 z30 z31; replace hb := bthen hb hb1; clear hb1; replace q_c := x_c.al; replace q_g := x_g.al; (try (have q_b := x_b.al))) | (go_at_call 16; (with_reducible refine (ROf_any 2 (by omega) (by omega)).mono ?_); rintro e v8 ⟨A9, n9, c9, rfl, z9, hb1⟩; replace hb1 := undrew hb1; have x_b := (Lx.new v7 false none 0 0 false none 0 0 0).keep hb1; replace hb1 := bthen (below_alloc v7 (.cells #[.bool false, .slice none 0 0, .bool false, .slice none 0 0, .int .i64 0] 27)) hb1; replace hv := bthen hv hb1; have hvs_v8 := hv.size; obtain ⟨x_r, x_d, x_u, x_c, x_e, x_f, x_g, z5, z6⟩ := mv9 hb1 x_r x_d x_u x_c x_e x_f x_g z5 z6; obtain ⟨z20, z21, z30, z31⟩ := mv4 hb1 z20 z21 z30 z31; replace hb := bthen hb hb1; clear hb1; replace q_c := x_c.al; replace q_g := x_g.al; (try (have q_b := x_b.al))) | (go_at_call 15; (with_reducible refine (RTimes_yes z20.zr z31.zr z9.zr ⟨by omega, by omega, HXY.out.1⟩ (by omega) (by omega) (by omega)).mono ?_); rintro e v9 ⟨A15, n15, c15, A16, n16, c16, rfl, z15, z16, hb1⟩; (try replace x_b := x_b.keep hb1); replace hv := bthen hv hb1; have hvs_v9 := hv.size; obtain ⟨x_r, x_d, x_u, x_c, x_e, x_f, x_g, z5, z6⟩ := mv9 hb1 x_r x_d x_u x_c x_e x_f x_g z5 z6; obtain ⟨z20, z21, z30, z31, z9⟩ := mv5 hb1 z20 z21 z30 z31 z9; replace hb := bthen hb hb1; clear hb1; replace q_c := x_c.al; replace q_g := x_g.al; rw [HTm.out] at z15 ⊢; rw [HTx.out] at z16 ⊢; (try (have q_b := x_b.al))) | (go_at_call 15; (with_reducible refine (RTimes_yes (z20.keep (below_alloc v8 (.cells #[.bool false, .slice none 0 0, .bool false, .slice none 0 0, .int .i64 0] 27))).zr (z31.keep (below_alloc v8 (.cells #[.bool false, .slice none 0 0, .bool false, .slice none 0 0, .int .i64 0] 27))).zr (z9.keep (below_alloc v8 (.cells #[.bool false, .slice none 0 0, .bool false, .slice none 0 0, .int .i64 0] 27))).zr ⟨by omega, by omega, HXY.out.1⟩ (by omega) (by omega) (by omega)).mono ?_); rintro e v9 ⟨A15, n15, c15, A16, n16, c16, rfl, z15, z16, hb1⟩; have x_b := (Lx.new v8 false none 0 0 false none 0 0 0).keep hb1; replace hb1 := bthen (below_alloc v8 (.cells #[.bool false, .slice none 0 0, .bool false, .slice none 0 0, .int .i64 0] 27)) hb1; replace hv := bthen hv hb1; have hvs_v9 := hv.size; obtain ⟨x_r, x_d, x_u, x_c, x_e, x_f, x_g, z5, z6⟩ := mv9 hb1 x_r x_d x_u x_c x_e x_f x_g z5 z6; obtain ⟨z20, z21, z30, z31, z9⟩ := mv5 hb1 z20 z21 z30 z31 z9; replace hb := bthen hb hb1; clear hb1; replace q_c := x_c.al; replace q_g := x_g.al; rw [HTm.out] at z15 ⊢; rw [HTx.out] at z16 ⊢; (try (have q_b := x_b.al))))
  all_goals go_wp2_with fail
  all_goals go_meet
  all_goals first | (with_reducible exact LxNew.new hv z15.zr z16.zr) | (with_reducible exact LxNew.put hv x_b (by omega) z15.zr z16.zr)
 case rest =>
  obtain ⟨g10, bx11, Ax11, nx11, cx11, by11, Ay11, ny11, cy11, rfl, x_b, z1_b, z2_b, e_b, hb1⟩ := hcut
  clear hv
  obtain ⟨x_r, x_d, x_u, x_c, x_e, x_f, x_g, z5, z6⟩ := mv9 hb1 x_r x_d x_u x_c x_e x_f x_g z5 z6
  obtain ⟨z20, z21, z30, z31⟩ := mv4 hb1 z20 z21 z30 z31
  replace hb := bthen hb hb1
  clear hb1
  replace q_c := x_c.al
  replace q_g := x_g.al
  clear q_c q_g
  generalize wc = v12 at *
  have q_c := x_c.al
  have q_g := x_g.al
  have q_b := x_b.al
  go_wp2_with fail
  with_reducible refine (RRecast_yes z1_b z2_b q ⟨by omega, by omega, HXY.out.2⟩ (by omega) 200 (by omega) (by omega) (by omega)).mono ?_
  rintro e v13 ⟨A17, n17, c17, A18, n18, c18, rfl, z17, z18, hb1⟩
  obtain ⟨x_r, x_d, x_u, x_c, x_e, x_f, x_g, x_b, z5⟩ := mv9 hb1 x_r x_d x_u x_c x_e x_f x_g x_b z5
  obtain ⟨z6, z20, z21, z30, z31, z1_b, z2_b⟩ := mv7 hb1 z6 z20 z21 z30 z31 z1_b z2_b
  replace hb := bthen hb hb1
  clear hb1
  replace q_c := x_c.al
  replace q_g := x_g.al
  replace q_b := x_b.al
  rw [HFl.out] at z17 ⊢; rw [HFh.out] at z18 ⊢
  have q_r := x_r.al
  go_wp2
  replace x_d := x_d.asideL (b' := (ngB L0)) (A' := A17) (n' := n17) (c' := c17) (p' := (ngB H0)) (B' := A18) (m' := n18) (d' := c18) (e' := (q : Int)) (g := w.heap.size) (by omega)
  replace x_u := x_u.asideL (b' := (ngB L0)) (A' := A17) (n' := n17) (c' := c17) (p' := (ngB H0)) (B' := A18) (m' := n18) (d' := c18) (e' := (q : Int)) (g := w.heap.size) (by omega)
  replace x_c := x_c.asideL (b' := (ngB L0)) (A' := A17) (n' := n17) (c' := c17) (p' := (ngB H0)) (B' := A18) (m' := n18) (d' := c18) (e' := (q : Int)) (g := w.heap.size) (by omega)
  replace x_e := x_e.asideL (b' := (ngB L0)) (A' := A17) (n' := n17) (c' := c17) (p' := (ngB H0)) (B' := A18) (m' := n18) (d' := c18) (e' := (q : Int)) (g := w.heap.size) (by omega)
  replace x_f := x_f.asideL (b' := (ngB L0)) (A' := A17) (n' := n17) (c' := c17) (p' := (ngB H0)) (B' := A18) (m' := n18) (d' := c18) (e' := (q : Int)) (g := w.heap.size) (by omega)
  replace x_g := x_g.asideL (b' := (ngB L0)) (A' := A17) (n' := n17) (c' := c17) (p' := (ngB H0)) (B' := A18) (m' := n18) (d' := c18) (e' := (q : Int)) (g := w.heap.size) (by omega)
  replace x_b := x_b.asideL (b' := (ngB L0)) (A' := A17) (n' := n17) (c' := c17) (p' := (ngB H0)) (B' := A18) (m' := n18) (d' := c18) (e' := (q : Int)) (g := w.heap.size) (by omega)
  replace z5 := z5.putL (b' := (ngB L0)) (A' := A17) (n' := n17) (c' := c17) (p' := (ngB H0)) (B' := A18) (m' := n18) (d' := c18) (e' := (q : Int)) x_r
  replace z6 := z6.putL (b' := (ngB L0)) (A' := A17) (n' := n17) (c' := c17) (p' := (ngB H0)) (B' := A18) (m' := n18) (d' := c18) (e' := (q : Int)) x_r
  replace z20 := z20.putL (b' := (ngB L0)) (A' := A17) (n' := n17) (c' := c17) (p' := (ngB H0)) (B' := A18) (m' := n18) (d' := c18) (e' := (q : Int)) x_r
  replace z21 := z21.putL (b' := (ngB L0)) (A' := A17) (n' := n17) (c' := c17) (p' := (ngB H0)) (B' := A18) (m' := n18) (d' := c18) (e' := (q : Int)) x_r
  replace z30 := z30.putL (b' := (ngB L0)) (A' := A17) (n' := n17) (c' := c17) (p' := (ngB H0)) (B' := A18) (m' := n18) (d' := c18) (e' := (q : Int)) x_r
  replace z31 := z31.putL (b' := (ngB L0)) (A' := A17) (n' := n17) (c' := c17) (p' := (ngB H0)) (B' := A18) (m' := n18) (d' := c18) (e' := (q : Int)) x_r
  replace z1_b := z1_b.putL (b' := (ngB L0)) (A' := A17) (n' := n17) (c' := c17) (p' := (ngB H0)) (B' := A18) (m' := n18) (d' := c18) (e' := (q : Int)) x_r
  replace z2_b := z2_b.putL (b' := (ngB L0)) (A' := A17) (n' := n17) (c' := c17) (p' := (ngB H0)) (B' := A18) (m' := n18) (d' := c18) (e' := (q : Int)) x_r
  replace z17 := z17.putL (b' := (ngB L0)) (A' := A17) (n' := n17) (c' := c17) (p' := (ngB H0)) (B' := A18) (m' := n18) (d' := c18) (e' := (q : Int)) x_r
  replace z18 := z18.putL (b' := (ngB L0)) (A' := A17) (n' := n17) (c' := c17) (p' := (ngB H0)) (B' := A18) (m' := n18) (d' := c18) (e' := (q : Int)) x_r
  replace hb := put_belowL (g := w.heap.size) hb (by omega) (.bool (ngB L0)) (.slice A17 n17 c17) (.bool (ngB H0)) (.slice A18 n18 c18) (.int .i64 (q : Int))
  replace x_r := x_r.put (ngB L0) A17 n17 c17 (ngB H0) A18 n18 c18 (q : Int)
  clear q_r q_c q_g q_b
  generalize ((((v13.setCell ⟨w.heap.size, 0, none⟩ (.bool (ngB L0))).setCell ⟨w.heap.size, 1, none⟩ (.slice A17 n17 c17)).setCell ⟨w.heap.size, 2, none⟩ (.bool (ngB H0))).setCell ⟨w.heap.size, 3, none⟩ (.slice A18 n18 c18)).setCell ⟨w.heap.size, 4, none⟩ (.int .i64 (q : Int)) = v14 at *
  have q_r := x_r.al
  have q_c := x_c.al
  have q_g := x_g.al
  have q_b := x_b.al
  skip
  refine bodyPost_ret (v := .tuple #[.agg #[.bool (ngB L0), .slice A17 n17 c17, .bool (ngB H0), .slice A18 n18 c18, .int .i64 (q : Int)], .int .i64 0]) (by simp [results, Tryz.results6, go_sem, q_r]) rfl ?_
  exact ⟨_, _, _, _, _, _, rfl, z17, z18, hb⟩

end Go.Proofs.YtiikmjnnlckiiaaGreat
