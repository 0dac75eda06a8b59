/-
  consts: reciprocal.
-/
import Derived.Test.YtiikmjnnlckiiaaCpart
import Derived.Test.YtiikmjnnlckiiaaLsum
namespace Go.Proofs.Ytiikmjnnlckiiaa
open Go.RowKit
set_option linter.unusedVariables false

set_option maxRecDepth 100000 in
set_option maxHeartbeats 8000000 in
theorem reciprocal_any (W m : Nat) (K : Int) (hK : K = (m : Int)) (w : World) (hW : 16 ≤ W ∧ W ≤ 1000) (hm : 3 ≤ m ∧ m ≤ 300) (hc : Nat.Coprime m 2) :
    Calls Try.prog 50 #[.int .u64 K, .int .i64 (W : Nat)] w (OuB w (ptN W m) (ptN W m + 1) W 19) := by
  have hp := tw_pos W
  have hbd := pt_bd (m := m) hW hm.1
  obtain ⟨r1, r2⟩ := rec_is (W := W) (m := m) (by omega) hc
  rw [← hK] at r1 r2
  have a1 := pt_at (X := 1) (W := W)
  have a2 := pt_at (X := K) (W := W)
  obtain ⟨D, hD⟩ : ∃ e, ptN W m = e := ⟨_, rfl⟩
  rw [hD] at r1 r2 hbd ⊢
  have BD : Hid (Si D 18 ∧ Si (D + 1) 18) := Lib.hid ⟨si_twL (K := 2) (Q := W) (by omega) (by omega) (by omega) (by omega), si_twL (K := 2) (Q := W) (by omega) (by omega) (by omega) (by omega)⟩
  have hKp : 0 ≤ K * twP W := Int.mul_nonneg (by omega) (Int.le_of_lt hp)
  have hKq : K * twP W ≤ (300 : Nat) * twP W := Int.mul_le_mul_of_nonneg_right (by omega) (Int.le_of_lt hp)
  have BP : Hid (Si (1 * twP W) 20 ∧ Si (K * twP W) 20) := Lib.hid ⟨si_tw (K := 1) (Q := W) (by omega) (by omega) (by omega) (by omega), si_tw (K := 300) (Q := W) (by omega) (by omega) hKq (by omega)⟩
  have hPK : 0 < K * twP W := Int.mul_pos (by omega) hp
  obtain ⟨P1, hP1⟩ : ∃ e, 1 * twP W = e := ⟨_, rfl⟩
  obtain ⟨P2, hP2⟩ : ∃ e, K * twP W = e := ⟨_, rfl⟩
  rw [hP1] at r1 r2 a1 BP; rw [hP2] at r1 r2 a2 BP hPK
  have HK : 3 ≤ K ∧ K ≤ 300 := by omega
  clear hK hm hc
  have R1 := Lib.hid r1; have R2 := Lib.hid r2; have H1 := Lib.hid a1; have H2 := Lib.hid a2; have HP := Lib.hid hPK; clear hp hbd r1 r2 a1 a2 hD hKp hKq hP1 hP2 hPK
  go_enter Try.func50, Try.ntmps50
  go_wp2_with fail
  have x_r : Lx (w.alloc (.cells #[.bool false, .slice none 0 0, .bool false, .slice none 0 0, .int .i64 0] 27)) (w.heap.size) false none 0 0 false none 0 0 0 := by have := Lx.new w false none 0 0 false none 0 0 0; simpa using this
  have hb : Below w.heap.size w (w.alloc (.cells #[.bool false, .slice none 0 0, .bool false, .slice none 0 0, .int .i64 0] 27)) := (Below.alloc (Below.refl w.heap.size w) (by simp) (.cells #[.bool false, .slice none 0 0, .bool false, .slice none 0 0, .int .i64 0] 27))
  generalize w.alloc (.cells #[.bool false, .slice none 0 0, .bool false, .slice none 0 0, .int .i64 0] 27) = v1 at *
  have q_r := x_r.al
  clear q_r
  go_wp2_with fail
  with_reducible refine (whole_any 1 _ ⟨by omega, by omega⟩).mono ?_
  rintro e v2 ⟨A13, n13, c13, rfl, z13, hb1⟩
  replace x_r := x_r.keep hb1
  replace hb := bthen hb hb1
  clear hb1
  go_wp2_with fail
  with_reducible refine (Point_yes z13.zr (W : Nat) (by omega) 129 (by omega) (by omega)).mono ?_
  rintro e v3 ⟨A3, n3, c3, A4, n4, c4, rfl, z3, z4, hb1⟩
  replace x_r := x_r.keep hb1
  replace z13 := z13.keep hb1
  replace hb := bthen hb hb1
  clear hb1
  rw [H1.out.1] at z3 ⊢; rw [H1.out.2] at z4 ⊢
  replace z3 := z3.slim BP.out.1; replace z4 := z4.slim BP.out.1
  clear z13
  go_wp2_with fail
  have hb1 := below_alloc v3 (.cells #[.bool (ngB P1), .slice A3 n3 c3, .bool (ngB P1), .slice A4 n4 c4, .int .i64 (W : Int)] 27)
  have l_r_a := x_r.lt
  have x_a := Lx.new v3 (ngB P1) A3 n3 c3 (ngB P1) A4 n4 c4 (W : Int)
  have e_a : w.heap.size ≤ v3.heap.size := hb.size
  replace x_r := x_r.keep hb1
  replace z3 := z3.keep hb1
  replace z4 := z4.keep hb1
  replace hb := bthen hb hb1
  clear hb1
  generalize v3.alloc (.cells #[.bool (ngB P1), .slice A3 n3 c3, .bool (ngB P1), .slice A4 n4 c4, .int .i64 (W : Int)] 27) = v4 at *
  have q_a := x_a.al
  go_wp2_with fail
  with_reducible refine (whole_any K _ ⟨by omega, by omega⟩).mono ?_
  rintro e v5 ⟨A15, n15, c15, rfl, z15, hb1⟩
  replace x_r := x_r.keep hb1
  replace x_a := x_a.keep hb1
  replace z3 := z3.keep hb1
  replace z4 := z4.keep hb1
  replace hb := bthen hb hb1
  clear hb1
  replace q_a := x_a.al
  go_wp2_with fail
  with_reducible refine (Point_yes z15.zr (W : Nat) (by omega) 129 (by omega) (by omega)).mono ?_
  rintro e v6 ⟨A5, n5, c5, A6, n6, c6, rfl, z5, z6, hb1⟩
  replace x_r := x_r.keep hb1
  replace x_a := x_a.keep hb1
  replace z3 := z3.keep hb1
  replace z4 := z4.keep hb1
  replace z15 := z15.keep hb1
  replace hb := bthen hb hb1
  clear hb1
  replace q_a := x_a.al
  rw [H2.out.1] at z5 ⊢; rw [H2.out.2] at z6 ⊢
  replace z5 := z5.slim BP.out.2; replace z6 := z6.slim BP.out.2
  clear z15
  have y_a := ((x_a.alloc (.cells #[.bool (ngB P2), .slice A5 n5 c5, .bool (ngB P2), .slice A6 n6 c6, .int .i64 (W : Int)] 27))).al
  go_wp2_with fail
  clear y_a
  have hb1 := below_alloc v6 (.cells #[.bool (ngB P2), .slice A5 n5 c5, .bool (ngB P2), .slice A6 n6 c6, .int .i64 (W : Int)] 27)
  have l_r_d := x_r.lt
  have l_a_d := x_a.lt
  have x_d := Lx.new v6 (ngB P2) A5 n5 c5 (ngB P2) A6 n6 c6 (W : Int)
  have e_d : w.heap.size ≤ v6.heap.size := hb.size
  clear q_a
  replace x_r := x_r.keep hb1
  replace x_a := x_a.keep hb1
  replace z3 := z3.keep hb1
  replace z4 := z4.keep hb1
  replace z5 := z5.keep hb1
  replace z6 := z6.keep hb1
  replace hb := bthen hb hb1
  clear hb1
  generalize v6.alloc (.cells #[.bool (ngB P2), .slice A5 n5 c5, .bool (ngB P2), .slice A6 n6 c6, .int .i64 (W : Int)] 27) = v7 at *
  have q_a := x_a.al
  have q_d := x_d.al
  skip
  with_reducible refine (LDiv_any z3.zr z4.zr z5.zr z6.zr ⟨by omega, by omega, Int.le_refl _⟩ (Int.le_refl _) ⟨by have := HP.out; omega, by have := HP.out; omega, by have := HP.out; omega⟩ 20 (by omega) (by omega) (by omega) (by omega) 150 (by omega) (by omega)).mono ?_
  rintro e v8 ⟨A7, n7, c7, A8, n8, c8, rfl, z7, z8, hb1⟩
  replace x_r := x_r.keep hb1
  replace x_a := x_a.keep hb1
  replace x_d := x_d.keep hb1
  replace z3 := z3.keep hb1
  replace z4 := z4.keep hb1
  replace z5 := z5.keep hb1
  replace z6 := z6.keep hb1
  replace hb := bthen hb hb1
  clear hb1
  replace q_a := x_a.al
  replace q_d := x_d.al
  rw [R1.out] at z7 ⊢; rw [R2.out] at z8 ⊢
  replace z7 := z7.slim BD.out.1; replace z8 := z8.slim BD.out.2
  clear q_a
  clear q_d
  clear z3 z4 z5 z6
  go_upto_region 4 with fail
  have hb1 := below_alloc v8 (.cells #[.bool (ngB D), .slice A7 n7 c7, .bool (ngB (D + 1)), .slice A8 n8 c8, .int .i64 (W : Int)] 27)
  have l_r_p := x_r.lt
  have l_a_p := x_a.lt
  have l_d_p := x_d.lt
  have x_p := Lx.new v8 (ngB D) A7 n7 c7 (ngB (D + 1)) A8 n8 c8 (W : Int)
  have e_p : w.heap.size ≤ v8.heap.size := hb.size
  replace x_r := x_r.keep hb1
  replace x_a := x_a.keep hb1
  replace x_d := x_d.keep hb1
  replace z7 := z7.keep hb1
  replace z8 := z8.keep hb1
  replace hb := bthen hb hb1
  clear hb1
  generalize v8.alloc (.cells #[.bool (ngB D), .slice A7 n7 c7, .bool (ngB (D + 1)), .slice A8 n8 c8, .int .i64 (W : Int)] 27) = v9 at *
  have q_p := x_p.al
  have q_r := x_r.al
  go_wp2
  replace x_a := x_a.asideL (b' := (ngB D)) (A' := A7) (n' := n7) (c' := c7) (p' := (ngB (D + 1))) (B' := A8) (m' := n8) (d' := c8) (e' := (W : Int)) (g := w.heap.size) (by omega)
  replace x_d := x_d.asideL (b' := (ngB D)) (A' := A7) (n' := n7) (c' := c7) (p' := (ngB (D + 1))) (B' := A8) (m' := n8) (d' := c8) (e' := (W : Int)) (g := w.heap.size) (by omega)
  replace x_p := x_p.asideL (b' := (ngB D)) (A' := A7) (n' := n7) (c' := c7) (p' := (ngB (D + 1))) (B' := A8) (m' := n8) (d' := c8) (e' := (W : Int)) (g := w.heap.size) (by omega)
  replace z7 := z7.putL (b' := (ngB D)) (A' := A7) (n' := n7) (c' := c7) (p' := (ngB (D + 1))) (B' := A8) (m' := n8) (d' := c8) (e' := (W : Int)) x_r
  replace z8 := z8.putL (b' := (ngB D)) (A' := A7) (n' := n7) (c' := c7) (p' := (ngB (D + 1))) (B' := A8) (m' := n8) (d' := c8) (e' := (W : Int)) x_r
  replace hb := put_belowL (g := w.heap.size) hb (by omega) (.bool (ngB D)) (.slice A7 n7 c7) (.bool (ngB (D + 1))) (.slice A8 n8 c8) (.int .i64 (W : Int))
  replace x_r := x_r.put (ngB D) A7 n7 c7 (ngB (D + 1)) A8 n8 c8 (W : Int)
  clear q_r q_p
  generalize ((((v9.setCell ⟨w.heap.size, 0, none⟩ (.bool (ngB D))).setCell ⟨w.heap.size, 1, none⟩ (.slice A7 n7 c7)).setCell ⟨w.heap.size, 2, none⟩ (.bool (ngB (D + 1)))).setCell ⟨w.heap.size, 3, none⟩ (.slice A8 n8 c8)).setCell ⟨w.heap.size, 4, none⟩ (.int .i64 (W : Int)) = v10 at *
  have q_r := x_r.al
  have q_p := x_p.al
  skip
  refine bodyPost_ret (v := .agg #[.bool (ngB D), .slice A7 n7 c7, .bool (ngB (D + 1)), .slice A8 n8 c8, .int .i64 (W : Int)]) (by simp [results, Try.results50, go_sem, q_r]) rfl ?_
  exact ⟨_, _, _, _, _, _, rfl, z7.wide (by omega), z8.wide (by omega), hb⟩

end Go.Proofs.Ytiikmjnnlckiiaa
