/-
 the document's answers for consts: Pi; the errors.
-/
import Derived.Test.YtiikmjnnlckiiaaGreatQarc
import Derived.Test.YtiikmjnnlckiiaaGreatLrtimes
import Derived.Test.YtiikmjnnlckiiaaGreatLrsum
import Derived.Test.YtiikmjnnlckiiaaGreatLref
namespace Go.Proofs.YtiikmjnnlckiiaaGreat
open Go.RowKit
set_option linter.unusedVariables false

set_option maxRecDepth 100000 in
set_option maxHeartbeats 16000000 in
theorem RPi_yes (q : Nat) (w : World) (hq : q ≤ 900) (hv5 : arLo (q + 16) 5 ≤ arHi (q + 16) 5) (hv9 : arLo (q + 16) 239 ≤ arHi (q + 16) 239) :
  Calls Tryz.prog 8 #[.int .i64 (q : Nat)] w (OuL w (piA q) (piZ q) q 200) := by
 have e0 := fl16 (16 * arLo (q + 16) 5 - 4 * arHi (q + 16) 239) q
 have e1 := fl16 (-(16 * arHi (q + 16) 5 - 4 * arLo (q + 16) 239)) q
 obtain ⟨W, hWq⟩ : ∃ W, q + 16 = W := ⟨_, rfl⟩
 have hW : 16 ≤ W ∧ W ≤ 1000 := by omega
 have a_W : IntKind.i64.wrap ((q : Int) + 16) = (W : Int) := by rw [wrapK (by omega) (by omega)]; omega
 have hc : ((q : Int) + 16) = (W : Int) := by omega
 obtain ⟨P1, hP1⟩ : ∃ e, arLo W 5 = e := ⟨_, rfl⟩
 obtain ⟨R1, hR1⟩ : ∃ e, arHi W 5 = e := ⟨_, rfl⟩
 obtain ⟨P2, hP2⟩ : ∃ e, arLo W 239 = e := ⟨_, rfl⟩
 obtain ⟨R2, hR2⟩ : ∃ e, arHi W 239 = e := ⟨_, rfl⟩
 rw [hWq, hP1, hR1] at hv5
 rw [hWq, hP2, hR2] at hv9
 rw [hWq, hc, hP1, hR2] at e0
 rw [hWq, hc, hR1, hP2] at e1
 obtain ⟨L0, hL0⟩ : ∃ e, piA q = e := ⟨_, rfl⟩
 obtain ⟨H0, hH0⟩ : ∃ e, piZ q = e := ⟨_, rfl⟩
 rw [hL0, hH0]
 have hA : (16 * P1 - 4 * R2) / 65536 = L0 := by rw [← hL0, ← hP1, ← hR2, ← hWq]; rfl
 have hZ : -(-(16 * R1 - 4 * P2) / 65536) = H0 := by rw [← hH0, ← hR1, ← hP2, ← hWq]; rfl
 rw [hA] at e0
 have e2 : -flI (-(16 * R1 - 4 * P2)) (-(W : Int) + q) = H0 := by rw [e1]; exact hZ
 obtain ⟨X1, hX1⟩ : ∃ e, 16 * P1 = e := ⟨_, rfl⟩
 obtain ⟨Y1, hY1⟩ : ∃ e, 16 * R1 = e := ⟨_, rfl⟩
 obtain ⟨X2, hX2⟩ : ∃ e, 4 * P2 = e := ⟨_, rfl⟩
 obtain ⟨Y2, hY2⟩ : ∃ e, 4 * R2 = e := ⟨_, rfl⟩
 rw [hX1, hY2] at e0
 rw [hY1, hX2] at e2
 have HM5 : Hid (min (P1 * 16) (R1 * 16) = X1) := Lib.hid (by omega); have HN5 : Hid (max (P1 * 16) (R1 * 16) = Y1) := Lib.hid (by omega)
 have HM9 : Hid (min (P2 * 4) (R2 * 4) = X2) := Lib.hid (by omega); have HN9 : Hid (max (P2 * 4) (R2 * 4) = Y2) := Lib.hid (by omega)
 obtain ⟨X3, hX3⟩ : ∃ e, X1 - Y2 = e := ⟨_, rfl⟩
 obtain ⟨Y3, hY3⟩ : ∃ e, Y1 - X2 = e := ⟨_, rfl⟩
 rw [hX3] at e0
 rw [hY3] at e2
 have HV : Hid (P1 ≤ R1 ∧ P2 ≤ R2 ∧ X1 ≤ Y1 ∧ X2 ≤ Y2 ∧ X3 ≤ Y3) := Lib.hid (by omega)
 have HFl := Lib.hid e0; have HFh := Lib.hid e2
 have HP1 := Lib.hid hP1
 have HR1 := Lib.hid hR1
 have HP2 := Lib.hid hP2
 have HR2 := Lib.hid hR2
 have HL0 := Lib.hid hL0
 have HH0 := Lib.hid hH0
 have HX3 := Lib.hid hX3
 have HY3 := Lib.hid hY3
 have HWQ := Lib.hid hWq; have HC := Lib.hid hc
 clear e0 e1 e2 hA hZ hL0 hH0 hX1 hY1 hX2 hY2 hX3 hY3 hP1 hR1 hP2 hR2 hv5 hv9 hc hWq
 go_enter Tryz.func8, Tryz.ntmps8
 go_upto_region 1 with fail
 have x_r : Lx (w.alloc (.cells #[.bool false, .slice none 0 0, .bool false, .slice none 0 0, .int .i64 0] 27)) (w.heap.size) false none 0 0 false none 0 0 0 := by have := Lx.new w false none 0 0 false none 0 0 0; simpa using this
 have hb : Below w.heap.size w (w.alloc (.cells #[.bool false, .slice none 0 0, .bool false, .slice none 0 0, .int .i64 0] 27)) := (Below.alloc (Below.refl w.heap.size w) (by simp) (.cells #[.bool false, .slice none 0 0, .bool false, .slice none 0 0, .int .i64 0] 27))
 generalize w.alloc (.cells #[.bool false, .slice none 0 0, .bool false, .slice none 0 0, .int .i64 0] 27) = v1 at *
 have q_r := x_r.al
 clear q_r
 go_wp2_with fail
 with_reducible refine (Rarc_at W 5 5 rfl _ hW (by omega)).mono ?_
 rintro e v2 ⟨A10, n10, c10, A11, n11, c11, rfl, z10, z11, hb1⟩
 replace x_r := x_r.keep hb1
 replace hb := bthen hb hb1
 clear hb1
 rw [HP1.out] at z10 ⊢; rw [HR1.out] at z11 ⊢
 go_wp2_with fail
 with_reducible refine (ROf_any 16 (by omega) (by omega)).mono ?_
 rintro e v3 ⟨A12, n12, c12, rfl, z12, hb1⟩
 obtain ⟨x_r, z10, z11⟩ := mv3 hb1 x_r z10 z11
 replace hb := bthen hb hb1
 clear hb1
 go_wp2_with fail
 with_reducible refine (RTimes_yes z10.zr z11.zr z12.zr ⟨by omega, by omega, by have := HV.out; omega⟩ (by omega) (by omega) (by omega)).mono ?_
 rintro e v4 ⟨A13, n13, c13, A14, n14, c14, rfl, z13, z14, hb1⟩
 obtain ⟨x_r, z10, z11, z12⟩ := mv4 hb1 x_r z10 z11 z12
 replace hb := bthen hb hb1
 clear hb1
 rw [HM5.out] at z13 ⊢; rw [HN5.out] at z14 ⊢
 clear z10 z11 z12
 go_upto_region 5 with fail
 have hb1 := below_alloc v4 (.cells #[.bool (ngB X1), .slice A13 n13 c13, .bool (ngB Y1), .slice A14 n14 c14, .int .i64 (W : Int)] 27)
 have l_r_a := x_r.lt
 have x_a := Lx.new v4 (ngB X1) A13 n13 c13 (ngB Y1) A14 n14 c14 (W : Int)
 have e_a : w.heap.size ≤ v4.heap.size := hb.size
 obtain ⟨x_r, z13, z14⟩ := mv3 hb1 x_r z13 z14
 replace hb := bthen hb hb1
 clear hb1
 generalize v4.alloc (.cells #[.bool (ngB X1), .slice A13 n13 c13, .bool (ngB Y1), .slice A14 n14 c14, .int .i64 (W : Int)] 27) = v5 at *
 have q_a := x_a.al
 go_wp2_with fail
 with_reducible refine (Rarc_at W 239 239 rfl _ hW (by omega)).mono ?_
 rintro e v6 ⟨A20, n20, c20, A21, n21, c21, rfl, z20, z21, hb1⟩
 obtain ⟨x_r, x_a, z13, z14⟩ := mv4 hb1 x_r x_a z13 z14
 replace hb := bthen hb hb1
 clear hb1
 replace q_a := x_a.al
 rw [HP2.out] at z20 ⊢; rw [HR2.out] at z21 ⊢
 go_wp2_with fail
 with_reducible refine (ROf_any 4 (by omega) (by omega)).mono ?_
 rintro e v7 ⟨A22, n22, c22, rfl, z22, hb1⟩
 obtain ⟨x_r, x_a, z13, z14, z20, z21⟩ := mv6 hb1 x_r x_a z13 z14 z20 z21
 replace hb := bthen hb hb1
 clear hb1
 replace q_a := x_a.al
 go_wp2_with fail
 with_reducible refine (RTimes_yes z20.zr z21.zr z22.zr ⟨by omega, by omega, by have := HV.out; omega⟩ (by omega) (by omega) (by omega)).mono ?_
 rintro e v8 ⟨A23, n23, c23, A24, n24, c24, rfl, z23, z24, hb1⟩
 obtain ⟨x_r, x_a, z13, z14, z20, z21, z22⟩ := mv7 hb1 x_r x_a z13 z14 z20 z21 z22
 replace hb := bthen hb hb1
 clear hb1
 replace q_a := x_a.al
 rw [HM9.out] at z23 ⊢; rw [HN9.out] at z24 ⊢
 clear z20 z21 z22
 go_upto_region 6 with fail
 have hb1 := below_alloc v8 (.cells #[.bool (ngB X2), .slice A23 n23 c23, .bool (ngB Y2), .slice A24 n24 c24, .int .i64 (W : Int)] 27)
 have l_r_d := x_r.lt
 have l_a_d := x_a.lt
 have x_d := Lx.new v8 (ngB X2) A23 n23 c23 (ngB Y2) A24 n24 c24 (W : Int)
 have e_d : w.heap.size ≤ v8.heap.size := hb.size
 clear q_a
 obtain ⟨x_r, x_a, z13, z14, z23, z24⟩ := mv6 hb1 x_r x_a z13 z14 z23 z24
 replace hb := bthen hb hb1
 clear hb1
 generalize v8.alloc (.cells #[.bool (ngB X2), .slice A23 n23 c23, .bool (ngB Y2), .slice A24 n24 c24, .int .i64 (W : Int)] 27) = v9 at *
 have q_a := x_a.al
 have q_d := x_d.al
 go_wp2_with fail
 with_reducible refine (RSub_yes z13.zr z14.zr z23.zr z24.zr ⟨by omega, by omega, by have := HV.out; omega⟩ (by have := HV.out; omega) (by omega) (by omega) (by omega) (by omega)).mono ?_
 rintro e v10 ⟨A5, n5, c5, A6, n6, c6, rfl, z5, z6, hb1⟩
 obtain ⟨x_r, x_a, x_d, z13, z14, z23, z24⟩ := mv7 hb1 x_r x_a x_d z13 z14 z23 z24
 replace hb := bthen hb hb1
 clear hb1
 replace q_a := x_a.al
 replace q_d := x_d.al
 rw [HX3.out] at z5 ⊢; rw [HY3.out] at z6 ⊢
 clear q_a
 clear q_d
 go_upto_region 7 with fail
 have hb1 := below_alloc v10 (.cells #[.bool (ngB X3), .slice A5 n5 c5, .bool (ngB Y3), .slice A6 n6 c6, .int .i64 (W : Int)] 27)
 have l_r_b := x_r.lt
 have l_a_b := x_a.lt
 have l_d_b := x_d.lt
 have x_b := Lx.new v10 (ngB X3) A5 n5 c5 (ngB Y3) A6 n6 c6 (W : Int)
 have e_b : w.heap.size ≤ v10.heap.size := hb.size
 obtain ⟨x_r, x_a, x_d, z13, z14, z23, z24, z5, z6⟩ := mv9 hb1 x_r x_a x_d z13 z14 z23 z24 z5 z6
 replace hb := bthen hb hb1
 clear hb1
 generalize v10.alloc (.cells #[.bool (ngB X3), .slice A5 n5 c5, .bool (ngB Y3), .slice A6 n6 c6, .int .i64 (W : Int)] 27) = v11 at *
 have q_b := x_b.al
 go_wp2_with fail
 with_reducible refine (RRecast_yes z5.zr z6.zr q ⟨by omega, by omega, by have := HV.out; omega⟩ (by omega) 200 (by omega) (by omega) (by omega)).mono ?_
 rintro e v12 ⟨A17, n17, c17, A18, n18, c18, rfl, z17, z18, hb1⟩
 obtain ⟨x_r, x_a, x_d, x_b, z13, z14, z23, z24, z5⟩ := mv9 hb1 x_r x_a x_d x_b z13 z14 z23 z24 z5
 replace z6 := z6.keep hb1
 replace hb := bthen hb hb1
 clear hb1
 replace q_b := x_b.al
 rw [HFl.out] at z17 ⊢; rw [HFh.out] at z18 ⊢
 have q_r := x_r.al
 go_wp2
 replace x_a := x_a.asideL (b' := (ngB L0)) (A' := A17) (n' := n17) (c' := c17) (p' := (ngB H0)) (B' := A18) (m' := n18) (d' := c18) (e' := (q : Int)) (g := w.heap.size) (by omega)
 replace x_d := x_d.asideL (b' := (ngB L0)) (A' := A17) (n' := n17) (c' := c17) (p' := (ngB H0)) (B' := A18) (m' := n18) (d' := c18) (e' := (q : Int)) (g := w.heap.size) (by omega)
 replace x_b := x_b.asideL (b' := (ngB L0)) (A' := A17) (n' := n17) (c' := c17) (p' := (ngB H0)) (B' := A18) (m' := n18) (d' := c18) (e' := (q : Int)) (g := w.heap.size) (by omega)
 replace z13 := z13.putL (b' := (ngB L0)) (A' := A17) (n' := n17) (c' := c17) (p' := (ngB H0)) (B' := A18) (m' := n18) (d' := c18) (e' := (q : Int)) x_r
 replace z14 := z14.putL (b' := (ngB L0)) (A' := A17) (n' := n17) (c' := c17) (p' := (ngB H0)) (B' := A18) (m' := n18) (d' := c18) (e' := (q : Int)) x_r
 replace z23 := z23.putL (b' := (ngB L0)) (A' := A17) (n' := n17) (c' := c17) (p' := (ngB H0)) (B' := A18) (m' := n18) (d' := c18) (e' := (q : Int)) x_r
 replace z24 := z24.putL (b' := (ngB L0)) (A' := A17) (n' := n17) (c' := c17) (p' := (ngB H0)) (B' := A18) (m' := n18) (d' := c18) (e' := (q : Int)) x_r
 replace z5 := z5.putL (b' := (ngB L0)) (A' := A17) (n' := n17) (c' := c17) (p' := (ngB H0)) (B' := A18) (m' := n18) (d' := c18) (e' := (q : Int)) x_r
 replace z6 := z6.putL (b' := (ngB L0)) (A' := A17) (n' := n17) (c' := c17) (p' := (ngB H0)) (B' := A18) (m' := n18) (d' := c18) (e' := (q : Int)) x_r
 replace z17 := z17.putL (b' := (ngB L0)) (A' := A17) (n' := n17) (c' := c17) (p' := (ngB H0)) (B' := A18) (m' := n18) (d' := c18) (e' := (q : Int)) x_r
 replace z18 := z18.putL (b' := (ngB L0)) (A' := A17) (n' := n17) (c' := c17) (p' := (ngB H0)) (B' := A18) (m' := n18) (d' := c18) (e' := (q : Int)) x_r
 replace hb := put_belowL (g := w.heap.size) hb (by omega) (.bool (ngB L0)) (.slice A17 n17 c17) (.bool (ngB H0)) (.slice A18 n18 c18) (.int .i64 (q : Int))
 replace x_r := x_r.put (ngB L0) A17 n17 c17 (ngB H0) A18 n18 c18 (q : Int)
 clear q_r q_b
 generalize ((((v12.setCell ⟨w.heap.size, 0, none⟩ (.bool (ngB L0))).setCell ⟨w.heap.size, 1, none⟩ (.slice A17 n17 c17)).setCell ⟨w.heap.size, 2, none⟩ (.bool (ngB H0))).setCell ⟨w.heap.size, 3, none⟩ (.slice A18 n18 c18)).setCell ⟨w.heap.size, 4, none⟩ (.int .i64 (q : Int)) = v13 at *
 have q_r := x_r.al
 have q_b := x_b.al
 skip
 refine bodyPost_ret (v := .tuple #[.agg #[.bool (ngB L0), .slice A17 n17 c17, .bool (ngB H0), .slice A18 n18 c18, .int .i64 (q : Int)], .int .i64 0]) (by simp [results, Tryz.results8, go_sem, q_r]) rfl ?_
 exact ⟨_, _, _, _, _, _, rfl, z17, z18, hb⟩

set_option maxRecDepth 100000 in
set_option maxHeartbeats 4000000 in
theorem RLn2_no (q : Int) (w : World) (hq : ¬ (0 ≤ q ∧ q ≤ 900)) :
  Calls Tryz.prog 6 #[.int .i64 q] w (ErrL w 1) := by
 rcases (show q < 0 ∨ (0 ≤ q ∧ 900 < q) by omega) with h1 | ⟨h1, h2⟩
 ·go_enter Tryz.func6, Tryz.ntmps6
  go_upto_region 1 with fail
  have x_r : Lx (w.alloc (.cells #[.bool false, .slice none 0 0, .bool false, .slice none 0 0, .int .i64 0] 27)) (w.heap.size) false none 0 0 false none 0 0 0 := by have := Lx.new w false none 0 0 false none 0 0 0; simpa using this
  have hb : Below w.heap.size w (w.alloc (.cells #[.bool false, .slice none 0 0, .bool false, .slice none 0 0, .int .i64 0] 27)) := (Below.alloc (Below.refl w.heap.size w) (by simp) (.cells #[.bool false, .slice none 0 0, .bool false, .slice none 0 0, .int .i64 0] 27))
  generalize w.alloc (.cells #[.bool false, .slice none 0 0, .bool false, .slice none 0 0, .int .i64 0] 27) = v1 at *
  have q_r := x_r.al
  go_wp2
  replace hb := put_belowL (g := w.heap.size) hb (by omega) (.bool false) (.slice none 0 0) (.bool false) (.slice none 0 0) (.int .i64 0)
  replace x_r := x_r.put false none 0 0 false none 0 0 0
  clear q_r
  generalize ((((v1.setCell ⟨w.heap.size, 0, none⟩ (.bool false)).setCell ⟨w.heap.size, 1, none⟩ (.slice none 0 0)).setCell ⟨w.heap.size, 2, none⟩ (.bool false)).setCell ⟨w.heap.size, 3, none⟩ (.slice none 0 0)).setCell ⟨w.heap.size, 4, none⟩ (.int .i64 0) = v2 at *
  have q_r := x_r.al
  skip
  refine bodyPost_ret (v := .tuple #[.agg #[.bool false, .slice none 0 0, .bool false, .slice none 0 0, .int .i64 0], .int .i64 1]) (by simp [results, Tryz.results6, go_sem, q_r]) rfl ?_
  exact ⟨rfl, hb⟩
 ·go_enter Tryz.func6, Tryz.ntmps6
  go_upto_region 1 with fail
  have x_r : Lx (w.alloc (.cells #[.bool false, .slice none 0 0, .bool false, .slice none 0 0, .int .i64 0] 27)) (w.heap.size) false none 0 0 false none 0 0 0 := by have := Lx.new w false none 0 0 false none 0 0 0; simpa using this
  have hb : Below w.heap.size w (w.alloc (.cells #[.bool false, .slice none 0 0, .bool false, .slice none 0 0, .int .i64 0] 27)) := (Below.alloc (Below.refl w.heap.size w) (by simp) (.cells #[.bool false, .slice none 0 0, .bool false, .slice none 0 0, .int .i64 0] 27))
  generalize w.alloc (.cells #[.bool false, .slice none 0 0, .bool false, .slice none 0 0, .int .i64 0] 27) = v1 at *
  have q_r := x_r.al
  go_wp2
  replace hb := put_belowL (g := w.heap.size) hb (by omega) (.bool false) (.slice none 0 0) (.bool false) (.slice none 0 0) (.int .i64 0)
  replace x_r := x_r.put false none 0 0 false none 0 0 0
  clear q_r
  generalize ((((v1.setCell ⟨w.heap.size, 0, none⟩ (.bool false)).setCell ⟨w.heap.size, 1, none⟩ (.slice none 0 0)).setCell ⟨w.heap.size, 2, none⟩ (.bool false)).setCell ⟨w.heap.size, 3, none⟩ (.slice none 0 0)).setCell ⟨w.heap.size, 4, none⟩ (.int .i64 0) = v2 at *
  have q_r := x_r.al
  skip
  refine bodyPost_ret (v := .tuple #[.agg #[.bool false, .slice none 0 0, .bool false, .slice none 0 0, .int .i64 0], .int .i64 1]) (by simp [results, Tryz.results6, go_sem, q_r]) rfl ?_
  exact ⟨rfl, hb⟩

set_option maxRecDepth 100000 in
set_option maxHeartbeats 4000000 in
theorem RPi_no (q : Int) (w : World) (hq : ¬ (0 ≤ q ∧ q ≤ 900)) :
  Calls Tryz.prog 8 #[.int .i64 q] w (ErrL w 1) := by
 rcases (show q < 0 ∨ (0 ≤ q ∧ 900 < q) by omega) with h1 | ⟨h1, h2⟩
 ·go_enter Tryz.func8, Tryz.ntmps8
  go_upto_region 1 with fail
  have x_r : Lx (w.alloc (.cells #[.bool false, .slice none 0 0, .bool false, .slice none 0 0, .int .i64 0] 27)) (w.heap.size) false none 0 0 false none 0 0 0 := by have := Lx.new w false none 0 0 false none 0 0 0; simpa using this
  have hb : Below w.heap.size w (w.alloc (.cells #[.bool false, .slice none 0 0, .bool false, .slice none 0 0, .int .i64 0] 27)) := (Below.alloc (Below.refl w.heap.size w) (by simp) (.cells #[.bool false, .slice none 0 0, .bool false, .slice none 0 0, .int .i64 0] 27))
  generalize w.alloc (.cells #[.bool false, .slice none 0 0, .bool false, .slice none 0 0, .int .i64 0] 27) = v1 at *
  have q_r := x_r.al
  go_wp2
  replace hb := put_belowL (g := w.heap.size) hb (by omega) (.bool false) (.slice none 0 0) (.bool false) (.slice none 0 0) (.int .i64 0)
  replace x_r := x_r.put false none 0 0 false none 0 0 0
  clear q_r
  generalize ((((v1.setCell ⟨w.heap.size, 0, none⟩ (.bool false)).setCell ⟨w.heap.size, 1, none⟩ (.slice none 0 0)).setCell ⟨w.heap.size, 2, none⟩ (.bool false)).setCell ⟨w.heap.size, 3, none⟩ (.slice none 0 0)).setCell ⟨w.heap.size, 4, none⟩ (.int .i64 0) = v2 at *
  have q_r := x_r.al
  skip
  refine bodyPost_ret (v := .tuple #[.agg #[.bool false, .slice none 0 0, .bool false, .slice none 0 0, .int .i64 0], .int .i64 1]) (by simp [results, Tryz.results8, go_sem, q_r]) rfl ?_
  exact ⟨rfl, hb⟩
 ·go_enter Tryz.func8, Tryz.ntmps8
  go_upto_region 1 with fail
  have x_r : Lx (w.alloc (.cells #[.bool false, .slice none 0 0, .bool false, .slice none 0 0, .int .i64 0] 27)) (w.heap.size) false none 0 0 false none 0 0 0 := by have := Lx.new w false none 0 0 false none 0 0 0; simpa using this
  have hb : Below w.heap.size w (w.alloc (.cells #[.bool false, .slice none 0 0, .bool false, .slice none 0 0, .int .i64 0] 27)) := (Below.alloc (Below.refl w.heap.size w) (by simp) (.cells #[.bool false, .slice none 0 0, .bool false, .slice none 0 0, .int .i64 0] 27))
  generalize w.alloc (.cells #[.bool false, .slice none 0 0, .bool false, .slice none 0 0, .int .i64 0] 27) = v1 at *
  have q_r := x_r.al
  go_wp2
  replace hb := put_belowL (g := w.heap.size) hb (by omega) (.bool false) (.slice none 0 0) (.bool false) (.slice none 0 0) (.int .i64 0)
  replace x_r := x_r.put false none 0 0 false none 0 0 0
  clear q_r
  generalize ((((v1.setCell ⟨w.heap.size, 0, none⟩ (.bool false)).setCell ⟨w.heap.size, 1, none⟩ (.slice none 0 0)).setCell ⟨w.heap.size, 2, none⟩ (.bool false)).setCell ⟨w.heap.size, 3, none⟩ (.slice none 0 0)).setCell ⟨w.heap.size, 4, none⟩ (.int .i64 0) = v2 at *
  have q_r := x_r.al
  skip
  refine bodyPost_ret (v := .tuple #[.agg #[.bool false, .slice none 0 0, .bool false, .slice none 0 0, .int .i64 0], .int .i64 1]) (by simp [results, Tryz.results8, go_sem, q_r]) rfl ?_
  exact ⟨rfl, hb⟩

end Go.Proofs.YtiikmjnnlckiiaaGreat
