/-
 the document's answers for consts: arc.
-/
import Derived.Test.YtiikmjnnlckiiaaGreatQdef
import Derived.Test.YtiikmjnnlckiiaaGreatRatan
import Derived.Test.YtiikmjnnlckiiaaGreatLclos
namespace Go.Proofs.YtiikmjnnlckiiaaGreat
open Go.RowKit
set_option linter.unusedVariables false

set_option maxRecDepth 100000 in
set_option maxHeartbeats 8000000 in
theorem RPart_any (W m : Nat) (w : World) (hW : 16 ≤ W ∧ W ≤ 1000) (hm : 3 ≤ m ∧ m ≤ 300) :
  Calls Tryz.prog 13 #[.int .i64 (W : Nat), .int .i64 (m : Nat)] w (Ou20 w (ptN W m) (ptN W m + 1) 19) := by
 have hbd := pt_bd (m := m) hW hm.1
 have HPT := Lib.hid (pt_is (m := m) (show W ≤ 1000 by omega))
 have hsi : Si (ptN W m) 18 := si_twL (K := 2) (Q := W) (by omega) (by omega) (by have := tw_pos W; omega) (by have := tw_pos W; omega)
 have BD := Lib.hid hsi
 obtain ⟨D, hD⟩ : ∃ e, ptN W m = e := ⟨_, rfl⟩
 rw [hD] at HPT BD ⊢
 obtain ⟨P2, hP2⟩ : ∃ e, 1 * (2 : Int) ^ sc (W : Int) = e := ⟨_, rfl⟩
 rw [hP2] at HPT
 have HP2 := Lib.hid hP2
 clear hbd hsi hD hP2
 go_enter Tryz.func13, Tryz.ntmps13
 go_upto_region 1 with fail
 have x_r : Bx (w.alloc (.cells #[.bool false, .slice none 0 0] 25)) (w.heap.size) false none 0 0 := by have := Bx.new w false none 0 0; simpa using this
 replace x_r := x_r.alloc (.cells #[.bool false, .slice none 0 0] 25)
 have x_p : Bx ((w.alloc (.cells #[.bool false, .slice none 0 0] 25)).alloc (.cells #[.bool false, .slice none 0 0] 25)) (w.heap.size + 1) false none 0 0 := by have := Bx.new (w.alloc (.cells #[.bool false, .slice none 0 0] 25)) false none 0 0; simpa using this
 have hb : Below w.heap.size w ((w.alloc (.cells #[.bool false, .slice none 0 0] 25)).alloc (.cells #[.bool false, .slice none 0 0] 25)) := (Below.alloc (Below.alloc (Below.refl w.heap.size w) (by simp) (.cells #[.bool false, .slice none 0 0] 25)) (by simp) (.cells #[.bool false, .slice none 0 0] 25))
 generalize (w.alloc (.cells #[.bool false, .slice none 0 0] 25)).alloc (.cells #[.bool false, .slice none 0 0] 25) = v1 at *
 have q_r := x_r.al
 have q_p := x_p.al
 clear q_r
 clear q_p
 go_wp2_with fail
 with_reducible refine (ROf_any 1 (by omega) (by omega)).mono ?_
 rintro e v2 ⟨A9, n9, c9, rfl, z9, hb1⟩
 obtain ⟨x_r, x_p⟩ := mv2 hb1 x_r x_p
 replace hb := bthen hb hb1
 clear hb1
 go_wp2_with fail
 with_reducible refine (RShlZ_any z9.zr W 130 (by omega) (by omega)).mono ?_
 rintro e v3 ⟨A8, n8, c8, rfl, z8, hb1⟩
 obtain ⟨x_r, x_p, z9⟩ := mv3 hb1 x_r x_p z9
 replace hb := bthen hb hb1
 clear hb1
 rw [HP2.out] at z8 ⊢
 go_wp2_with fail
 with_reducible refine (ROf_any m (by omega) (by omega)).mono ?_
 rintro e v4 ⟨A7, n7, c7, rfl, z7, hb1⟩
 obtain ⟨x_r, x_p, z9, z8⟩ := mv4 hb1 x_r x_p z9 z8
 replace hb := bthen hb hb1
 clear hb1
 go_wp2_with fail
 with_reducible refine (RDivModZ_any z8.zr z7.zr (by omega) 131 (by omega) (by omega) (by omega)).mono ?_
 rintro e v5 ⟨A5, n5, c5, A6, n6, c6, rfl, z5, z6, hb1⟩
 obtain ⟨x_r, x_p, z9, z8, z7⟩ := mv5 hb1 x_r x_p z9 z8 z7
 replace hb := bthen hb hb1
 clear hb1
 rw [HPT.out] at z5 ⊢
 replace z5 := z5.slim BD.out
 obtain ⟨E6, hE6⟩ : ∃ e, P2 % (m : Int) = e := ⟨_, rfl⟩
 rw [hE6] at z6 ⊢
 clear hE6
 go_upto_region 2 with fail
 have l_r_d := x_r.lt
 have l_p_d := x_p.lt
 have e_d : w.heap.size ≤ v5.heap.size := hb.size
 have hb1 := below_alloc2 v5 (.cells #[.bool (ngB D), .slice A5 n5 c5] 25) (.cells #[.bool (ngB E6), .slice A6 n6 c6] 25)
 have x_d := (Bx.new v5 (ngB D) A5 n5 c5).alloc (.cells #[.bool (ngB E6), .slice A6 n6 c6] 25)
 have x_e : Bx ((v5.alloc (.cells #[.bool (ngB D), .slice A5 n5 c5] 25)).alloc (.cells #[.bool (ngB E6), .slice A6 n6 c6] 25)) (v5.heap.size + 1) (ngB E6) A6 n6 c6 := by have := Bx.new (v5.alloc (.cells #[.bool (ngB D), .slice A5 n5 c5] 25)) (ngB E6) A6 n6 c6; simpa using this
 obtain ⟨x_r, x_p, z9, z8, z7, z5, z6⟩ := mv7 hb1 x_r x_p z9 z8 z7 z5 z6
 replace hb := bthen hb hb1
 clear hb1
 generalize (v5.alloc (.cells #[.bool (ngB D), .slice A5 n5 c5] 25)).alloc (.cells #[.bool (ngB E6), .slice A6 n6 c6] 25) = v6 at *
 have q_d := x_d.al
 have q_e := x_e.al
 have q_r := x_r.al
 have q_p := x_p.al
 clear q_e
 go_region_held3 (fun w' => w'.cell? ⟨v5.heap.size, 0, none⟩ = some (.bool (ngB D)) ∧ w'.cell? ⟨v5.heap.size, 1, none⟩ = some (.slice A5 n5 c5))
  (first | (with_reducible exact ⟨x_d.c0, x_d.c1⟩) | (with_reducible exact ⟨(x_d.aside (by omega)).c0, (x_d.aside (by omega)).c1⟩) | (with_reducible exact ⟨((x_d.aside (by omega)).aside (by omega)).c0, ((x_d.aside (by omega)).aside (by omega)).c1⟩) | (with_reducible exact ⟨(x_d.asideD (by omega)).c0, (x_d.asideD (by omega)).c1⟩) | (with_reducible exact ⟨((x_d.asideD (by omega)).asideD (by omega)).c0, ((x_d.asideD (by omega)).asideD (by omega)).c1⟩) | (with_reducible exact ⟨(x_d.asideL (by omega)).c0, (x_d.asideL (by omega)).c1⟩) | (with_reducible exact ⟨((x_d.asideL (by omega)).asideL (by omega)).c0, ((x_d.asideL (by omega)).asideL (by omega)).c1⟩) | go_keep)
  (first | (go_at_call 16; (with_reducible refine (ROf_any 1 (by omega) (by omega)).mono ?_); rintro e v7 ⟨A11, n11, c11, rfl, z11, hb1⟩; replace hb1 := undrew hb1; obtain ⟨x_r, x_p, x_d, x_e, z9, z8, z7, z5, z6⟩ := mv9 hb1 x_r x_p x_d x_e z9 z8 z7 z5 z6; replace hb := bthen hb hb1; clear hb1; replace q_r := x_r.al; replace q_p := x_p.al; replace q_d := x_d.al) | (go_at_call 33; (with_reducible refine (RAddZ_any z5.zr z11.zr 19 (by omega) (by omega) (by omega)).mono ?_); rintro e v8 ⟨A12, n12, c12, rfl, z12, hb1⟩; obtain ⟨x_r, x_p, x_d, x_e, z9, z8, z7, z5, z6⟩ := mv9 hb1 x_r x_p x_d x_e z9 z8 z7 z5 z6; replace z11 := z11.keep hb1; replace hb := bthen hb hb1; clear hb1; replace q_r := x_r.al; replace q_p := x_p.al; replace q_d := x_d.al))
 go_wp2
 replace x_p := x_p.aside (b' := (ngB D)) (A' := A5) (n' := n5) (c' := c5) (g := w.heap.size) (by omega)
 replace x_d := x_d.aside (b' := (ngB D)) (A' := A5) (n' := n5) (c' := c5) (g := w.heap.size) (by omega)
 replace x_e := x_e.aside (b' := (ngB D)) (A' := A5) (n' := n5) (c' := c5) (g := w.heap.size) (by omega)
 replace z9 := z9.put (b' := (ngB D)) (A' := A5) (n' := n5) (c' := c5) x_r
 replace z8 := z8.put (b' := (ngB D)) (A' := A5) (n' := n5) (c' := c5) x_r
 replace z7 := z7.put (b' := (ngB D)) (A' := A5) (n' := n5) (c' := c5) x_r
 replace z5 := z5.put (b' := (ngB D)) (A' := A5) (n' := n5) (c' := c5) x_r
 replace z6 := z6.put (b' := (ngB D)) (A' := A5) (n' := n5) (c' := c5) x_r
 replace z11 := z11.put (b' := (ngB D)) (A' := A5) (n' := n5) (c' := c5) x_r
 replace z12 := z12.put (b' := (ngB D)) (A' := A5) (n' := n5) (c' := c5) x_r
 replace hb := put_below (g := w.heap.size) hb (by omega) (.bool (ngB D)) (.slice A5 n5 c5)
 replace x_r := x_r.put (ngB D) A5 n5 c5
 clear q_r q_p q_d
 generalize (v8.setCell ⟨w.heap.size, 0, none⟩ (.bool (ngB D))).setCell ⟨w.heap.size, 1, none⟩ (.slice A5 n5 c5) = v9 at *
 have q_r := x_r.al
 have q_p := x_p.al
 have q_d := x_d.al
 replace x_r := x_r.aside (b' := (ngB (D + 1))) (A' := A12) (n' := n12) (c' := c12) (g := w.heap.size + 1) (by omega)
 replace x_d := x_d.aside (b' := (ngB (D + 1))) (A' := A12) (n' := n12) (c' := c12) (g := w.heap.size + 1) (by omega)
 replace x_e := x_e.aside (b' := (ngB (D + 1))) (A' := A12) (n' := n12) (c' := c12) (g := w.heap.size + 1) (by omega)
 replace z9 := z9.put (b' := (ngB (D + 1))) (A' := A12) (n' := n12) (c' := c12) x_p
 replace z8 := z8.put (b' := (ngB (D + 1))) (A' := A12) (n' := n12) (c' := c12) x_p
 replace z7 := z7.put (b' := (ngB (D + 1))) (A' := A12) (n' := n12) (c' := c12) x_p
 replace z5 := z5.put (b' := (ngB (D + 1))) (A' := A12) (n' := n12) (c' := c12) x_p
 replace z6 := z6.put (b' := (ngB (D + 1))) (A' := A12) (n' := n12) (c' := c12) x_p
 replace z11 := z11.put (b' := (ngB (D + 1))) (A' := A12) (n' := n12) (c' := c12) x_p
 replace z12 := z12.put (b' := (ngB (D + 1))) (A' := A12) (n' := n12) (c' := c12) x_p
 replace hb := put_below (g := w.heap.size + 1) hb (by omega) (.bool (ngB (D + 1))) (.slice A12 n12 c12)
 replace x_p := x_p.put (ngB (D + 1)) A12 n12 c12
 clear q_r q_p q_d
 generalize (v9.setCell ⟨w.heap.size + 1, 0, none⟩ (.bool (ngB (D + 1)))).setCell ⟨w.heap.size + 1, 1, none⟩ (.slice A12 n12 c12) = v10 at *
 have q_r := x_r.al
 have q_p := x_p.al
 have q_d := x_d.al
 skip
 refine bodyPost_ret (v := .tuple #[.agg #[.bool (ngB D), .slice A5 n5 c5], .agg #[.bool (ngB (D + 1)), .slice A12 n12 c12]]) (by simp [results, Tryz.results13, go_sem, q_r, q_p]) rfl ?_
 exact ⟨_, _, _, _, _, _, rfl, z5.wide (by omega), z12, hb⟩

theorem RPart_at (W m : Nat) (K : Int) (hK : K = (m : Int)) (w : World) (hW : 16 ≤ W ∧ W ≤ 1000) (hm : 3 ≤ m ∧ m ≤ 300) : Calls Tryz.prog 13 #[.int .i64 (W : Nat), .int .i64 K] w (Ou20 w (ptN W m) (ptN W m + 1) 19) := by
 subst hK
 exact RPart_any W m w hW hm
theorem RAtanh_at {b : Bool} {A : Option Addr} {n c : Nat} {X : Int} {j : Nat} {w : World} (h : Zr w b A n c X j) (Q M : Nat) (K : Int) (hK : K = (M : Int)) (hQ : Q ≤ 1200) (hM : 1 ≤ M ∧ M ≤ 400) (hX : 0 ≤ X ∧ 2 * X ≤ twP Q) (hj : j ≤ 20) : Calls Tryz.prog 14 #[.agg #[.bool b, .slice A n c], .int .i64 (Q : Nat), .int .i64 K] w (Ou2 w (rwLo 1 X Q M) (rwHi 1 X Q M) 0 25) := by
 subst hK
 exact RAtanh_yes h Q M hQ hM hX hj
theorem RAtan_at {b : Bool} {A : Option Addr} {n c : Nat} {X : Int} {j : Nat} {w : World} (h : Zr w b A n c X j) (Q M : Nat) (K : Int) (hK : K = (M : Int)) (hQ : Q ≤ 1200) (hM : 1 ≤ M ∧ M ≤ 400) (hX : 0 ≤ X ∧ 2 * X ≤ twP Q) (hj : j ≤ 20) : Calls Tryz.prog 47 #[.agg #[.bool b, .slice A n c], .int .i64 (Q : Nat), .int .i64 K] w (Ou2 w (rwLo 2 X Q M) (rwHi 2 X Q M) 0 25) := by
 subst hK
 exact RAtan_yes h Q M hQ hM hX hj
end Go.Proofs.YtiikmjnnlckiiaaGreat
namespace Go.Proofs.YtiikmjnnlckiiaaGreat
open Go.RowKit
set_option linter.unusedVariables false

set_option maxRecDepth 100000 in
set_option maxHeartbeats 16000000 in
theorem Rarc_any (W m : Nat) (w : World) (hW : 16 ≤ W ∧ W ≤ 1000) (hm : 3 ≤ m ∧ m ≤ 300) :
  Calls Tryz.prog 19 #[.int .i64 (W : Nat), .int .i64 (m : Nat)] w (OuB w (arLo W m) (arHi W m) W 20) := by
 have hbd := pt_bd (m := m) hW (by omega)
 obtain ⟨D, hD⟩ : ∃ e, ptN W m = e := ⟨_, rfl⟩
 obtain ⟨M0, M, a_M, b_M, k_M, e_M⟩ : ∃ M0 M : Nat, IntKind.i64.wrap ((W : Int).tdiv 9) = (M0 : Int) ∧ IntKind.i64.wrap ((M0 : Int) + 2) = (M : Int) ∧ (1 ≤ M ∧ M ≤ 400) ∧ W / 9 + 2 = M := ⟨W / 9, W / 9 + 2, by rw [Int.tdiv_eq_ediv_of_nonneg (by omega), wrapK (by omega) (by omega)]; omega, by rw [wrapK (by omega) (by omega)]; omega, by omega, rfl⟩
 obtain ⟨P1, hP1⟩ : ∃ e, rwLo 2 D W M = e := ⟨_, rfl⟩
 obtain ⟨R1, hR1⟩ : ∃ e, rwHi 2 D W M = e := ⟨_, rfl⟩
 obtain ⟨P2, hP2⟩ : ∃ e, rwLo 2 (D + 1) W M = e := ⟨_, rfl⟩
 obtain ⟨R2, hR2⟩ : ∃ e, rwHi 2 (D + 1) W M = e := ⟨_, rfl⟩
 rw [hD] at hbd
 have BP1 : Hid (Si P1 20 ∧ Si R1 20) := Lib.hid (by rw [← hP1, ← hR1]; exact rw_si (by omega) (by omega) (by omega) (by omega) (by omega))
 have BP2 : Hid (Si P2 20 ∧ Si R2 20) := Lib.hid (by rw [← hP2, ← hR2]; exact rw_si (by omega) (by omega) (by omega) (by omega) (by omega))
 have hlo : arLo W m = P1 := by rw [← hP1, ← hD, ← e_M]; rfl
 have hhi : arHi W m = R2 := by rw [← hR2, ← hD, ← e_M, show ptN W m + 1 = ((2 ^ W / m + 1 : Nat) : Int) by unfold ptN; push_cast; rfl]; rfl
 have HP1 := Lib.hid hP1
 have HR1 := Lib.hid hR1
 have HP2 := Lib.hid hP2
 have HR2 := Lib.hid hR2
 have HD := Lib.hid hD
 have HBD := Lib.hid hbd
 have HKM : Hid (((W : Int) / 9 + 2) = (M : Int)) := Lib.hid (by omega)
 clear hbd hD hP1 hR1 hP2 hR2 e_M
 rw [hlo, hhi]
 have HLO := Lib.hid hlo; have HHI := Lib.hid hhi; clear hlo hhi
 go_enter Tryz.func19, Tryz.ntmps19
 go_upto_region 1 with fail
 have x_r : Lx (w.alloc (.cells #[.bool false, .slice none 0 0, .bool false, .slice none 0 0, .int .i64 0] 27)) (w.heap.size) false none 0 0 false none 0 0 0 := by have := Lx.new w false none 0 0 false none 0 0 0; simpa using this
 have hb : Below w.heap.size w (w.alloc (.cells #[.bool false, .slice none 0 0, .bool false, .slice none 0 0, .int .i64 0] 27)) := (Below.alloc (Below.refl w.heap.size w) (by simp) (.cells #[.bool false, .slice none 0 0, .bool false, .slice none 0 0, .int .i64 0] 27))
 generalize w.alloc (.cells #[.bool false, .slice none 0 0, .bool false, .slice none 0 0, .int .i64 0] 27) = v1 at *
 have q_r := x_r.al
 clear q_r
 go_wp2_with fail
 with_reducible refine (RPart_at W m (m : Int) rfl _ hW (by omega)).mono ?_
 rintro e v2 ⟨A5, n5, c5, A6, n6, c6, rfl, z5, z6, hb1⟩
 replace x_r := x_r.keep hb1
 replace hb := bthen hb hb1
 clear hb1
 rw [HD.out] at z5 z6 ⊢
 go_upto_region 2 with fail
 have l_r_d := x_r.lt
 have e_d : w.heap.size ≤ v2.heap.size := hb.size
 have hb1 := below_alloc2 v2 (.cells #[.bool (ngB D), .slice A5 n5 c5] 25) (.cells #[.bool (ngB (D + 1)), .slice A6 n6 c6] 25)
 have x_d := (Bx.new v2 (ngB D) A5 n5 c5).alloc (.cells #[.bool (ngB (D + 1)), .slice A6 n6 c6] 25)
 have x_u : Bx ((v2.alloc (.cells #[.bool (ngB D), .slice A5 n5 c5] 25)).alloc (.cells #[.bool (ngB (D + 1)), .slice A6 n6 c6] 25)) (v2.heap.size + 1) (ngB (D + 1)) A6 n6 c6 := by have := Bx.new (v2.alloc (.cells #[.bool (ngB D), .slice A5 n5 c5] 25)) (ngB (D + 1)) A6 n6 c6; simpa using this
 obtain ⟨x_r, z5, z6⟩ := mv3 hb1 x_r z5 z6
 replace hb := bthen hb hb1
 clear hb1
 generalize (v2.alloc (.cells #[.bool (ngB D), .slice A5 n5 c5] 25)).alloc (.cells #[.bool (ngB (D + 1)), .slice A6 n6 c6] 25) = v3 at *
 have q_d := x_d.al
 have q_u := x_u.al
 go_wp2_with fail
 with_reducible refine (RAtan_at z5.zr W M _ HKM.out (by omega) k_M (by have := HBD.out; omega) (by omega)).mono ?_
 rintro e v4 ⟨A20, n20, c20, A21, n21, c21, rfl, z20, z21, hb1⟩
 obtain ⟨x_r, x_d, x_u, z5, z6⟩ := mv5 hb1 x_r x_d x_u z5 z6
 replace hb := bthen hb hb1
 clear hb1
 replace q_d := x_d.al
 replace q_u := x_u.al
 rw [HP1.out] at z20 ⊢; rw [HR1.out] at z21 ⊢
 replace z20 := z20.slim BP1.out.1; replace z21 := z21.slim BP1.out.2
 have y_d := ((x_d.alloc (.cells #[.bool (ngB P1), .slice A20 n20 c20] 25)).alloc (.cells #[.bool (ngB R1), .slice A21 n21 c21] 25)); have yq_d0 := y_d.c0; have yq_d1 := y_d.c1
 have y_u := ((x_u.alloc (.cells #[.bool (ngB P1), .slice A20 n20 c20] 25)).alloc (.cells #[.bool (ngB R1), .slice A21 n21 c21] 25)); have yq_u0 := y_u.c0; have yq_u1 := y_u.c1
 go_upto_region 3 with fail
 clear y_d yq_d0 yq_d1 y_u yq_u0 yq_u1
 have l_r_c := x_r.lt
 have l_d_c := x_d.lt
 have l_u_c := x_u.lt
 have e_c : w.heap.size ≤ v4.heap.size := hb.size
 have hb1 := below_alloc2 v4 (.cells #[.bool (ngB P1), .slice A20 n20 c20] 25) (.cells #[.bool (ngB R1), .slice A21 n21 c21] 25)
 have x_c := (Bx.new v4 (ngB P1) A20 n20 c20).alloc (.cells #[.bool (ngB R1), .slice A21 n21 c21] 25)
 have x_e : Bx ((v4.alloc (.cells #[.bool (ngB P1), .slice A20 n20 c20] 25)).alloc (.cells #[.bool (ngB R1), .slice A21 n21 c21] 25)) (v4.heap.size + 1) (ngB R1) A21 n21 c21 := by have := Bx.new (v4.alloc (.cells #[.bool (ngB P1), .slice A20 n20 c20] 25)) (ngB R1) A21 n21 c21; simpa using this
 clear q_d q_u
 obtain ⟨x_r, x_d, x_u, z5, z6, z20, z21⟩ := mv7 hb1 x_r x_d x_u z5 z6 z20 z21
 replace hb := bthen hb hb1
 clear hb1
 generalize (v4.alloc (.cells #[.bool (ngB P1), .slice A20 n20 c20] 25)).alloc (.cells #[.bool (ngB R1), .slice A21 n21 c21] 25) = v5 at *
 have q_d := x_d.al
 have q_u := x_u.al
 have q_c := x_c.al
 have q_e := x_e.al
 clear q_d
 clear q_e
 go_wp2_with fail
 with_reducible refine (RAtan_at z6.zr W M _ HKM.out (by omega) k_M (by have := HBD.out; omega) (by omega)).mono ?_
 rintro e v6 ⟨A30, n30, c30, A31, n31, c31, rfl, z30, z31, hb1⟩
 obtain ⟨x_r, x_d, x_u, x_c, x_e, z5, z6, z20, z21⟩ := mv9 hb1 x_r x_d x_u x_c x_e z5 z6 z20 z21
 replace hb := bthen hb hb1
 clear hb1
 replace q_u := x_u.al
 replace q_c := x_c.al
 rw [HP2.out] at z30 ⊢; rw [HR2.out] at z31 ⊢
 replace z30 := z30.slim BP2.out.1; replace z31 := z31.slim BP2.out.2
 have y_u := ((x_u.alloc (.cells #[.bool (ngB P2), .slice A30 n30 c30] 25)).alloc (.cells #[.bool (ngB R2), .slice A31 n31 c31] 25)); have yq_u0 := y_u.c0; have yq_u1 := y_u.c1
 have y_c := ((x_c.alloc (.cells #[.bool (ngB P2), .slice A30 n30 c30] 25)).alloc (.cells #[.bool (ngB R2), .slice A31 n31 c31] 25)); have yq_c0 := y_c.c0; have yq_c1 := y_c.c1
 go_upto_region 4 with fail
 clear y_u yq_u0 yq_u1 y_c yq_c0 yq_c1
 have l_r_f := x_r.lt
 have l_d_f := x_d.lt
 have l_u_f := x_u.lt
 have l_c_f := x_c.lt
 have l_e_f := x_e.lt
 have e_f : w.heap.size ≤ v6.heap.size := hb.size
 have hb1 := below_alloc2 v6 (.cells #[.bool (ngB P2), .slice A30 n30 c30] 25) (.cells #[.bool (ngB R2), .slice A31 n31 c31] 25)
 have x_f := (Bx.new v6 (ngB P2) A30 n30 c30).alloc (.cells #[.bool (ngB R2), .slice A31 n31 c31] 25)
 have x_g : Bx ((v6.alloc (.cells #[.bool (ngB P2), .slice A30 n30 c30] 25)).alloc (.cells #[.bool (ngB R2), .slice A31 n31 c31] 25)) (v6.heap.size + 1) (ngB R2) A31 n31 c31 := by have := Bx.new (v6.alloc (.cells #[.bool (ngB P2), .slice A30 n30 c30] 25)) (ngB R2) A31 n31 c31; simpa using this
 clear q_u q_c
 obtain ⟨x_r, x_d, x_u, x_c, x_e, z5, z6, z20, z21⟩ := mv9 hb1 x_r x_d x_u x_c x_e z5 z6 z20 z21
 obtain ⟨z30, z31⟩ := mv2 hb1 z30 z31
 replace hb := bthen hb hb1
 clear hb1
 generalize (v6.alloc (.cells #[.bool (ngB P2), .slice A30 n30 c30] 25)).alloc (.cells #[.bool (ngB R2), .slice A31 n31 c31] 25) = v7 at *
 have q_u := x_u.al
 have q_c := x_c.al
 have q_f := x_f.al
 have q_g := x_g.al
 clear q_u
 clear q_f
 have q_r := x_r.al
 go_wp2
 replace x_d := x_d.asideL (b' := (ngB P1)) (A' := A20) (n' := n20) (c' := c20) (p' := (ngB R2)) (B' := A31) (m' := n31) (d' := c31) (e' := (W : Int)) (g := w.heap.size) (by omega)
 replace x_u := x_u.asideL (b' := (ngB P1)) (A' := A20) (n' := n20) (c' := c20) (p' := (ngB R2)) (B' := A31) (m' := n31) (d' := c31) (e' := (W : Int)) (g := w.heap.size) (by omega)
 replace x_c := x_c.asideL (b' := (ngB P1)) (A' := A20) (n' := n20) (c' := c20) (p' := (ngB R2)) (B' := A31) (m' := n31) (d' := c31) (e' := (W : Int)) (g := w.heap.size) (by omega)
 replace x_e := x_e.asideL (b' := (ngB P1)) (A' := A20) (n' := n20) (c' := c20) (p' := (ngB R2)) (B' := A31) (m' := n31) (d' := c31) (e' := (W : Int)) (g := w.heap.size) (by omega)
 replace x_f := x_f.asideL (b' := (ngB P1)) (A' := A20) (n' := n20) (c' := c20) (p' := (ngB R2)) (B' := A31) (m' := n31) (d' := c31) (e' := (W : Int)) (g := w.heap.size) (by omega)
 replace x_g := x_g.asideL (b' := (ngB P1)) (A' := A20) (n' := n20) (c' := c20) (p' := (ngB R2)) (B' := A31) (m' := n31) (d' := c31) (e' := (W : Int)) (g := w.heap.size) (by omega)
 replace z5 := z5.putL (b' := (ngB P1)) (A' := A20) (n' := n20) (c' := c20) (p' := (ngB R2)) (B' := A31) (m' := n31) (d' := c31) (e' := (W : Int)) x_r
 replace z6 := z6.putL (b' := (ngB P1)) (A' := A20) (n' := n20) (c' := c20) (p' := (ngB R2)) (B' := A31) (m' := n31) (d' := c31) (e' := (W : Int)) x_r
 replace z20 := z20.putL (b' := (ngB P1)) (A' := A20) (n' := n20) (c' := c20) (p' := (ngB R2)) (B' := A31) (m' := n31) (d' := c31) (e' := (W : Int)) x_r
 replace z21 := z21.putL (b' := (ngB P1)) (A' := A20) (n' := n20) (c' := c20) (p' := (ngB R2)) (B' := A31) (m' := n31) (d' := c31) (e' := (W : Int)) x_r
 replace z30 := z30.putL (b' := (ngB P1)) (A' := A20) (n' := n20) (c' := c20) (p' := (ngB R2)) (B' := A31) (m' := n31) (d' := c31) (e' := (W : Int)) x_r
 replace z31 := z31.putL (b' := (ngB P1)) (A' := A20) (n' := n20) (c' := c20) (p' := (ngB R2)) (B' := A31) (m' := n31) (d' := c31) (e' := (W : Int)) x_r
 replace hb := put_belowL (g := w.heap.size) hb (by omega) (.bool (ngB P1)) (.slice A20 n20 c20) (.bool (ngB R2)) (.slice A31 n31 c31) (.int .i64 (W : Int))
 replace x_r := x_r.put (ngB P1) A20 n20 c20 (ngB R2) A31 n31 c31 (W : Int)
 clear q_r q_c q_g
 generalize ((((v7.setCell ⟨w.heap.size, 0, none⟩ (.bool (ngB P1))).setCell ⟨w.heap.size, 1, none⟩ (.slice A20 n20 c20)).setCell ⟨w.heap.size, 2, none⟩ (.bool (ngB R2))).setCell ⟨w.heap.size, 3, none⟩ (.slice A31 n31 c31)).setCell ⟨w.heap.size, 4, none⟩ (.int .i64 (W : Int)) = v8 at *
 have q_r := x_r.al
 have q_c := x_c.al
 have q_g := x_g.al
 skip
 refine bodyPost_ret (v := .agg #[.bool (ngB P1), .slice A20 n20 c20, .bool (ngB R2), .slice A31 n31 c31, .int .i64 (W : Int)]) (by simp [results, Tryz.results19, go_sem, q_r]) rfl ?_
 exact ⟨_, _, _, _, _, _, rfl, z20, z31, hb⟩

theorem Rarc_at (W m : Nat) (K : Int) (hK : K = (m : Int)) (w : World) (hW : 16 ≤ W ∧ W ≤ 1000) (hm : 3 ≤ m ∧ m ≤ 300) : Calls Tryz.prog 19 #[.int .i64 (W : Nat), .int .i64 K] w (OuB w (arLo W m) (arHi W m) W 20) := by
 subst hK
 exact Rarc_any W m w hW hm
end Go.Proofs.YtiikmjnnlckiiaaGreat
