/-
  The law RowsSquares, as a call.
-/
import Derived.Test.YthlpdljkclngdaaKmask
import Derived.Deep.DeepCutAuto
namespace Go.Proofs.Ythlpdljkclngdaa
open Go.RowKit
set_option linter.unusedVariables false

/-- A new box of an integer, in a world that is otherwise as it was. -/
def BnNew1 (v : World) (X : Int) (k : Nat) (s : Value) (wx : World) : Prop :=
  ∃ g A n c, s = .pointer (some ⟨g, 0, none⟩) ∧ Bx wx g (ngB X) A n c ∧ Zn wx A n c X k ∧ v.heap.size ≤ g ∧ Below v.heap.size v wx
theorem BnNew1.put {v wx : World} {X : Int} {k g n c m d : Nat} {p : Bool} {A B : Option Addr} (hv : Below v.heap.size v wx) (x : Bx wx g p B m d) (hg : v.heap.size ≤ g) (z : Zn wx A n c X k) :
    BnNew1 v X k (.pointer (some ⟨g, 0, none⟩)) ((wx.setCell ⟨g, 0, none⟩ (.bool (ngB X))).setCell ⟨g, 1, none⟩ (.slice A n c)) :=
  ⟨g, A, n, c, rfl, x.put _ _ _ _, z.put x, hg, put_below hv hg _ _⟩
theorem BnNew1.new {v wx : World} {X : Int} {k n c : Nat} {A : Option Addr} (hv : Below v.heap.size v wx) (z : Zn wx A n c X k) :
    BnNew1 v X k (.pointer (some ⟨wx.heap.size, 0, none⟩)) (wx.alloc (.cells #[.bool (ngB X), .slice A n c] 24)) :=
  ⟨wx.heap.size, A, n, c, rfl, Bx.new _ _ _ _ _, z.keep (below_alloc _ _), hv.size, bthen hv (below_alloc _ _)⟩
theorem sq_n {Q N : Nat} (hQ : 20 ≤ Q) (hN : N ≤ 39) : 12 * (N : Int) ≤ twP Q := by
  have h : twP 20 ≤ twP Q := by
    have e : twP Q = twP 20 * twP (Q - 20) := by rw [← tw_add, Nat.add_sub_cancel' hQ]
    have := tw_pos (Q - 20)
    rw [e]
    have h2 := Int.mul_le_mul_of_nonneg_left (show 1 ≤ twP (Q - 20) by omega) (show 0 ≤ twP 20 from Int.le_of_lt (tw_pos 20))
    omega
  have e : twP 20 = 1048576 := by decide
  omega
set_option maxRecDepth 100000 in
set_option maxHeartbeats 64000000 in
theorem RowsSquares_any {b : Bool} {A : Option Addr} {n c : Nat} {l : List Int} {q n1 : Int} {w : World} (h : Rd w w.heap.size A n c l) (hq : -9223372036854775808 ≤ q ∧ q ≤ 9223372036854775807) (hn1 : -9223372036854775808 ≤ n1 ∧ n1 ≤ 9223372036854775807) :
    Calls Try.prog 5 #[.agg #[.bool b, .slice A n c], .int .i64 q, .int .i64 n1] w fun e w' => e = .returned (.bool true) ∧ Below w.heap.size w w' := by
  obtain ⟨sq, hsq, Q, wq, lq, uq, hqq⟩ := masked127 q 20 (by omega)
  obtain ⟨sn1, hsn1, N, wn1, ln1, un1, hqn1⟩ := masked31 n1 8 (by omega)
  have w3 : IntKind.i64.wrap (2 * (Q : Int)) = 2 * (Q : Int) := wrapK (by omega) (by omega)
  have hQ : 20 ≤ Q ∧ Q ≤ 147 := by omega
  have hN : 8 ≤ N ∧ N ≤ 39 := by omega
  have hsq : 1 * (2 : Int) ^ sc (2 * (Q : Int)) = twP Q * twP Q := by rw [tw_sc2 (by omega), Int.one_mul]
  have HSQ := Lib.hid hsq
  clear hsq lq uq ln1 un1 hqq hqn1
  go_enter Try.func5, Try.ntmps5
  go_upto_region 1 with fail
  have x_a : Bx (w.alloc (.cells #[.bool b, .slice A n c] 24)) (w.heap.size) b A n c := by have := Bx.new w b A n c; simpa using this
  have hb : Below w.heap.size w (w.alloc (.cells #[.bool b, .slice A n c] 24)) := (Below.alloc (Below.refl w.heap.size w) (by simp) (.cells #[.bool b, .slice A n c] 24))
  generalize w.alloc (.cells #[.bool b, .slice A n c] 24) = v1 at *
  replace h := h.go hb
  obtain ⟨q_a0, f_a0, q_a1, f_a1⟩ := x_a.al
  go_wp2_with fail
  with_reducible refine (Kshown_any _).mono ?_
  rintro e v2 ⟨rfl, hb1⟩
  replace x_a := x_a.keep hb1
  replace h := h.go hb1
  replace hb := bthen hb hb1
  clear hb1
  clear q_a0 f_a0 q_a1 f_a1; obtain ⟨q_a0, f_a0, q_a1, f_a1⟩ := x_a.al
  go_wp2_with fail
  with_reducible refine (Part_any h Q (by omega) (by omega)).mono ?_
  rintro e v3 ⟨T, ⟨A5, n5, c5, rfl, z5, hb1⟩, hT0, hT1⟩
  replace x_a := x_a.keep hb1
  replace h := h.go hb1
  replace hb := bthen hb hb1
  clear hb1
  clear q_a0 f_a0 q_a1 f_a1; obtain ⟨q_a0, f_a0, q_a1, f_a1⟩ := x_a.al
  have HT := Lib.hid (And.intro hT0 hT1)
  clear hT0 hT1
  clear h
  go_upto_region 4 with fail
  replace z5 := z5.put (b' := (ngB T)) (A' := A5) (n' := n5) (c' := c5) x_a
  replace hb := put_below (g := w.heap.size) hb (by omega) (.bool (ngB T)) (.slice A5 n5 c5)
  replace x_a := x_a.put (ngB T) A5 n5 c5
  clear q_a0 f_a0 q_a1 f_a1
  generalize (v3.setCell ⟨w.heap.size, 0, none⟩ (.bool (ngB T))).setCell ⟨w.heap.size, 1, none⟩ (.slice A5 n5 c5) = v4 at *
  obtain ⟨q_a0, f_a0, q_a1, f_a1⟩ := x_a.al
  have hT := HT.out
  have hsn : 12 * (N : Int) ≤ twP Q := sq_n hQ.1 hN.2
  have hlo := rw_squares hT.1 hT.2 N (by omega) hsn
  have hup := rw_squares_up hT.1 hT.2 N
  obtain ⟨P1, hP1⟩ : ∃ e, rwLo 3 T Q N = e := ⟨_, rfl⟩
  obtain ⟨R1, hR1⟩ : ∃ e, rwHi 3 T Q N = e := ⟨_, rfl⟩
  obtain ⟨P2, hP2⟩ : ∃ e, rwLo 4 T Q N = e := ⟨_, rfl⟩
  obtain ⟨R2, hR2⟩ : ∃ e, rwHi 4 T Q N = e := ⟨_, rfl⟩
  rw [hP1, hP2] at hlo
  rw [hR1, hR2] at hup
  obtain ⟨W1, hW1⟩ : ∃ e, twP Q * twP Q = e := ⟨_, rfl⟩
  rw [hW1] at hlo hup
  have HW1 : Hid (1 * (2 : Int) ^ sc (2 * (Q : Int)) = W1) := Lib.hid (by rw [HSQ.out]; exact hW1)
  obtain ⟨L1, hL1⟩ : ∃ e, P1 * P1 + P2 * P2 = e := ⟨_, rfl⟩
  obtain ⟨H1, hH1⟩ : ∃ e, R1 * R1 + R2 * R2 = e := ⟨_, rfl⟩
  rw [hL1] at hlo
  rw [hH1] at hup
  obtain ⟨S2, hS2⟩ : ∃ e, sgnI (L1 - W1) = e := ⟨_, rfl⟩
  obtain ⟨S3, hS3⟩ : ∃ e, sgnI (W1 - H1) = e := ⟨_, rfl⟩
  have iS3 : S3 ≤ 0 := by rw [← hS3]; exact sgn_le0 (by omega)
  have hsg : sgnI P1 < 0 ∨ (¬ sgnI P1 < 0 ∧ S2 ≤ 0) := by
    rcases (show P1 < 0 ∨ 0 ≤ P1 by omega) with hp | hp
    · exact .inl (sgn_lt0 hp)
    · have := sgn_ge0 hp
      have := hlo hp
      exact .inr ⟨by omega, by rw [← hS2]; exact sgn_le0 (by omega)⟩
  obtain ⟨S1, hS1⟩ : ∃ e, sgnI P1 = e := ⟨_, rfl⟩
  rw [hS1] at hsg
  have HP1 := Lib.hid hP1
  have HR1 := Lib.hid hR1
  have HP2 := Lib.hid hP2
  have HR2 := Lib.hid hR2
  have HS1 := Lib.hid hS1
  have HS2 := Lib.hid hS2
  have HS3 := Lib.hid hS3
  have HL1 := Lib.hid hL1
  have HH1 := Lib.hid hH1
  clear hT hlo hup hP1 hR1 hP2 hR2 hS1 hS2 hS3 hL1 hH1 hW1 hsn
  go_upto_region 5 with fail
  go_wp2_with fail
  with_reducible refine (KSin_yes z5.zr Q N (by omega) (by omega) (by have := HT.out; omega) (by omega)).mono ?_
  rintro e v5 ⟨A10, n10, c10, A11, n11, c11, rfl, z10, z11, hb1⟩
  replace x_a := x_a.keep hb1
  replace z5 := z5.keep hb1
  replace hb := bthen hb hb1
  clear hb1
  clear q_a0 f_a0 q_a1 f_a1; obtain ⟨q_a0, f_a0, q_a1, f_a1⟩ := x_a.al
  rw [HP1.out] at z10 ⊢
  rw [HR1.out] at z11 ⊢
  have y_a := ((x_a.alloc (.cells #[.bool (ngB P1), .slice A10 n10 c10] 24)).alloc (.cells #[.bool (ngB R1), .slice A11 n11 c11] 24)); have yq_a0 := y_a.c0; have yq_a1 := y_a.c1
  go_upto_region 6 with fail
  clear y_a yq_a0 yq_a1
  have l_a_c := x_a.lt
  have e_c : w.heap.size ≤ v5.heap.size := hb.size
  have hb1 := below_alloc2 v5 (.cells #[.bool (ngB P1), .slice A10 n10 c10] 24) (.cells #[.bool (ngB R1), .slice A11 n11 c11] 24)
  have x_c := (Bx.new v5 (ngB P1) A10 n10 c10).alloc (.cells #[.bool (ngB R1), .slice A11 n11 c11] 24)
  have x_d : Bx ((v5.alloc (.cells #[.bool (ngB P1), .slice A10 n10 c10] 24)).alloc (.cells #[.bool (ngB R1), .slice A11 n11 c11] 24)) (v5.heap.size + 1) (ngB R1) A11 n11 c11 := by have := Bx.new (v5.alloc (.cells #[.bool (ngB P1), .slice A10 n10 c10] 24)) (ngB R1) A11 n11 c11; simpa using this
  clear q_a0 f_a0 q_a1 f_a1
  replace x_a := x_a.keep hb1
  replace z5 := z5.keep hb1
  replace z10 := z10.keep hb1
  replace z11 := z11.keep hb1
  replace hb := bthen hb hb1
  clear hb1
  generalize (v5.alloc (.cells #[.bool (ngB P1), .slice A10 n10 c10] 24)).alloc (.cells #[.bool (ngB R1), .slice A11 n11 c11] 24) = v6 at *
  obtain ⟨q_a0, f_a0, q_a1, f_a1⟩ := x_a.al
  obtain ⟨q_c0, f_c0, q_c1, f_c1⟩ := x_c.al
  obtain ⟨q_d0, f_d0, q_d1, f_d1⟩ := x_d.al
  go_wp2_with fail
  with_reducible refine (KCos_yes z5.zr Q N (by omega) (by omega) (by have := HT.out; omega) (by omega)).mono ?_
  rintro e v7 ⟨A12, n12, c12, A13, n13, c13, rfl, z12, z13, hb1⟩
  replace x_a := x_a.keep hb1
  replace x_c := x_c.keep hb1
  replace x_d := x_d.keep hb1
  replace z5 := z5.keep hb1
  replace z10 := z10.keep hb1
  replace z11 := z11.keep hb1
  replace hb := bthen hb hb1
  clear hb1
  clear q_a0 f_a0 q_a1 f_a1; obtain ⟨q_a0, f_a0, q_a1, f_a1⟩ := x_a.al
  clear q_c0 f_c0 q_c1 f_c1; obtain ⟨q_c0, f_c0, q_c1, f_c1⟩ := x_c.al
  clear q_d0 f_d0 q_d1 f_d1; obtain ⟨q_d0, f_d0, q_d1, f_d1⟩ := x_d.al
  rw [HP2.out] at z12 ⊢
  rw [HR2.out] at z13 ⊢
  have y_a := ((x_a.alloc (.cells #[.bool (ngB P2), .slice A12 n12 c12] 24)).alloc (.cells #[.bool (ngB R2), .slice A13 n13 c13] 24)); have yq_a0 := y_a.c0; have yq_a1 := y_a.c1
  have y_c := ((x_c.alloc (.cells #[.bool (ngB P2), .slice A12 n12 c12] 24)).alloc (.cells #[.bool (ngB R2), .slice A13 n13 c13] 24)); have yq_c0 := y_c.c0; have yq_c1 := y_c.c1
  have y_d := ((x_d.alloc (.cells #[.bool (ngB P2), .slice A12 n12 c12] 24)).alloc (.cells #[.bool (ngB R2), .slice A13 n13 c13] 24)); have yq_d0 := y_d.c0; have yq_d1 := y_d.c1
  go_upto_region 7 with fail
  clear y_a yq_a0 yq_a1 y_c yq_c0 yq_c1 y_d yq_d0 yq_d1
  have l_a_e := x_a.lt
  have l_c_e := x_c.lt
  have l_d_e := x_d.lt
  have e_e : w.heap.size ≤ v7.heap.size := hb.size
  have hb1 := below_alloc2 v7 (.cells #[.bool (ngB P2), .slice A12 n12 c12] 24) (.cells #[.bool (ngB R2), .slice A13 n13 c13] 24)
  have x_e := (Bx.new v7 (ngB P2) A12 n12 c12).alloc (.cells #[.bool (ngB R2), .slice A13 n13 c13] 24)
  have x_f : Bx ((v7.alloc (.cells #[.bool (ngB P2), .slice A12 n12 c12] 24)).alloc (.cells #[.bool (ngB R2), .slice A13 n13 c13] 24)) (v7.heap.size + 1) (ngB R2) A13 n13 c13 := by have := Bx.new (v7.alloc (.cells #[.bool (ngB P2), .slice A12 n12 c12] 24)) (ngB R2) A13 n13 c13; simpa using this
  clear q_a0 f_a0 q_a1 f_a1 q_c0 f_c0 q_c1 f_c1 q_d0 f_d0 q_d1 f_d1
  replace x_a := x_a.keep hb1
  replace x_c := x_c.keep hb1
  replace x_d := x_d.keep hb1
  replace z5 := z5.keep hb1
  replace z10 := z10.keep hb1
  replace z11 := z11.keep hb1
  replace z12 := z12.keep hb1
  replace z13 := z13.keep hb1
  replace hb := bthen hb hb1
  clear hb1
  generalize (v7.alloc (.cells #[.bool (ngB P2), .slice A12 n12 c12] 24)).alloc (.cells #[.bool (ngB R2), .slice A13 n13 c13] 24) = v8 at *
  obtain ⟨q_a0, f_a0, q_a1, f_a1⟩ := x_a.al
  obtain ⟨q_c0, f_c0, q_c1, f_c1⟩ := x_c.al
  obtain ⟨q_d0, f_d0, q_d1, f_d1⟩ := x_d.al
  obtain ⟨q_e0, f_e0, q_e1, f_e1⟩ := x_e.al
  obtain ⟨q_f0, f_f0, q_f1, f_f1⟩ := x_f.al
  go_wp2_with fail
  with_reducible refine (ZOf_any 1 (by omega) (by omega)).mono ?_
  rintro e v9 ⟨A20, n20, c20, rfl, z20, hb1⟩
  replace x_a := x_a.keep hb1
  replace x_c := x_c.keep hb1
  replace x_d := x_d.keep hb1
  replace x_e := x_e.keep hb1
  replace x_f := x_f.keep hb1
  replace z5 := z5.keep hb1
  replace z10 := z10.keep hb1
  replace z11 := z11.keep hb1
  replace z12 := z12.keep hb1
  replace z13 := z13.keep hb1
  replace hb := bthen hb hb1
  clear hb1
  clear q_a0 f_a0 q_a1 f_a1; obtain ⟨q_a0, f_a0, q_a1, f_a1⟩ := x_a.al
  clear q_c0 f_c0 q_c1 f_c1; obtain ⟨q_c0, f_c0, q_c1, f_c1⟩ := x_c.al
  clear q_d0 f_d0 q_d1 f_d1; obtain ⟨q_d0, f_d0, q_d1, f_d1⟩ := x_d.al
  clear q_e0 f_e0 q_e1 f_e1; obtain ⟨q_e0, f_e0, q_e1, f_e1⟩ := x_e.al
  clear q_f0 f_f0 q_f1 f_f1; obtain ⟨q_f0, f_f0, q_f1, f_f1⟩ := x_f.al
  go_wp2_with fail
  with_reducible refine (ZShl_any z20.zr (2 * (Q : Int)) 130 (by omega) (by omega)).mono ?_
  rintro e v10 ⟨A21, n21, c21, rfl, z21, hb1⟩
  replace x_a := x_a.keep hb1
  replace x_c := x_c.keep hb1
  replace x_d := x_d.keep hb1
  replace x_e := x_e.keep hb1
  replace x_f := x_f.keep hb1
  replace z5 := z5.keep hb1
  replace z10 := z10.keep hb1
  replace z11 := z11.keep hb1
  replace z12 := z12.keep hb1
  replace z13 := z13.keep hb1
  replace z20 := z20.keep hb1
  replace hb := bthen hb hb1
  clear hb1
  clear q_a0 f_a0 q_a1 f_a1; obtain ⟨q_a0, f_a0, q_a1, f_a1⟩ := x_a.al
  clear q_c0 f_c0 q_c1 f_c1; obtain ⟨q_c0, f_c0, q_c1, f_c1⟩ := x_c.al
  clear q_d0 f_d0 q_d1 f_d1; obtain ⟨q_d0, f_d0, q_d1, f_d1⟩ := x_d.al
  clear q_e0 f_e0 q_e1 f_e1; obtain ⟨q_e0, f_e0, q_e1, f_e1⟩ := x_e.al
  clear q_f0 f_f0 q_f1 f_f1; obtain ⟨q_f0, f_f0, q_f1, f_f1⟩ := x_f.al
  rw [HW1.out] at z21 ⊢
  clear z20
  go_upto_region 8 with fail
  have hb1 := below_alloc v10 (.cells #[.bool (ngB W1), .slice A21 n21 c21] 24)
  have l_a_o := x_a.lt
  have l_c_o := x_c.lt
  have l_d_o := x_d.lt
  have l_e_o := x_e.lt
  have l_f_o := x_f.lt
  have x_o := Bx.new v10 (ngB W1) A21 n21 c21
  have e_o : w.heap.size ≤ v10.heap.size := hb.size
  clear q_a0 f_a0 q_a1 f_a1 q_c0 f_c0 q_c1 f_c1 q_d0 f_d0 q_d1 f_d1 q_e0 f_e0 q_e1 f_e1 q_f0 f_f0 q_f1 f_f1
  replace x_a := x_a.keep hb1
  replace x_c := x_c.keep hb1
  replace x_d := x_d.keep hb1
  replace x_e := x_e.keep hb1
  replace x_f := x_f.keep hb1
  replace z5 := z5.keep hb1
  replace z10 := z10.keep hb1
  replace z11 := z11.keep hb1
  replace z12 := z12.keep hb1
  replace z13 := z13.keep hb1
  replace z21 := z21.keep hb1
  replace hb := bthen hb hb1
  clear hb1
  generalize v10.alloc (.cells #[.bool (ngB W1), .slice A21 n21 c21] 24) = v11 at *
  obtain ⟨q_a0, f_a0, q_a1, f_a1⟩ := x_a.al
  obtain ⟨q_c0, f_c0, q_c1, f_c1⟩ := x_c.al
  obtain ⟨q_d0, f_d0, q_d1, f_d1⟩ := x_d.al
  obtain ⟨q_e0, f_e0, q_e1, f_e1⟩ := x_e.al
  obtain ⟨q_f0, f_f0, q_f1, f_f1⟩ := x_f.al
  obtain ⟨q_o0, f_o0, q_o1, f_o1⟩ := x_o.al
  clear q_a0 f_a0 q_a1 f_a1
  clear q_d0 f_d0 q_d1 f_d1
  clear q_f0 f_f0 q_f1 f_f1
  clear q_o0 f_o0 q_o1 f_o1
  go_upto_region 8 with fail
  have hv := Below.refl v11.heap.size v11
  have l_a_x := x_a.lt
  have l_c_x := x_c.lt
  have l_d_x := x_d.lt
  have l_e_x := x_e.lt
  have l_f_x := x_f.lt
  have l_o_x := x_o.lt
  go_cut [15] (fun s9 wx => BnNew1 v11 L1 61 s9 wx)
  case first =>
    go_region_held3 (fun w' => w'.cell? ⟨v5.heap.size, 0, none⟩ = some (.bool (ngB P1)) ∧ w'.cell? ⟨v5.heap.size, 1, none⟩ = some (.slice A10 n10 c10) ∧ w'.cell? ⟨v7.heap.size, 0, none⟩ = some (.bool (ngB P2)) ∧ w'.cell? ⟨v7.heap.size, 1, none⟩ = some (.slice A12 n12 c12))
      (first | (with_reducible exact ⟨x_c.c0, x_c.c1, x_e.c0, x_e.c1⟩) | (with_reducible exact ⟨(x_c.alloc _).c0, (x_c.alloc _).c1, (x_e.alloc _).c0, (x_e.alloc _).c1⟩) | (with_reducible exact ⟨(x_c.aside (by omega)).c0, (x_c.aside (by omega)).c1, (x_e.aside (by omega)).c0, (x_e.aside (by omega)).c1⟩) | (with_reducible exact ⟨((x_c.alloc _).aside (by omega)).c0, ((x_c.alloc _).aside (by omega)).c1, ((x_e.alloc _).aside (by omega)).c0, ((x_e.alloc _).aside (by omega)).c1⟩) | go_keep)
      (first | (go_at_call 16; (with_reducible refine (ZMul_any z10.drw.zr z10.drw.zr 60 (by omega) (by omega)).mono ?_); rintro e v12 ⟨A30, n30, c30, rfl, s1, hb1⟩; replace hb1 := undrew hb1; (try replace x_x := x_x.keep hb1); replace hv := bthen hv hb1; have hvs_v12 := hv.size; replace x_a := x_a.keep hb1; replace x_c := x_c.keep hb1; replace x_d := x_d.keep hb1; replace x_e := x_e.keep hb1; replace x_f := x_f.keep hb1; replace x_o := x_o.keep hb1; replace z5 := z5.keep hb1; replace z10 := z10.keep hb1; replace z11 := z11.keep hb1; replace z12 := z12.keep hb1; replace z13 := z13.keep hb1; replace z21 := z21.keep hb1; replace hb := bthen hb hb1; clear hb1; clear q_c0 f_c0 q_c1 f_c1; obtain ⟨q_c0, f_c0, q_c1, f_c1⟩ := x_c.al; clear q_e0 f_e0 q_e1 f_e1; obtain ⟨q_e0, f_e0, q_e1, f_e1⟩ := x_e.al; (try (have q_x0 := x_x.c0; have f_x0 := x_x.fr 0; have q_x1 := x_x.c1; have f_x1 := x_x.fr 1))) | (go_at_call 16; (with_reducible refine (ZMul_any (z10.keep (below_alloc v11 (.cells #[.bool false, .slice none 0 0] 24))).drw.zr (z10.keep (below_alloc v11 (.cells #[.bool false, .slice none 0 0] 24))).drw.zr 60 (by omega) (by omega)).mono ?_); rintro e v12 ⟨A30, n30, c30, rfl, s1, hb1⟩; replace hb1 := undrew hb1; have x_x := (Bx.new v11 false none 0 0).keep hb1; replace hb1 := bthen (below_alloc v11 (.cells #[.bool false, .slice none 0 0] 24)) hb1; replace hv := bthen hv hb1; have hvs_v12 := hv.size; replace x_a := x_a.keep hb1; replace x_c := x_c.keep hb1; replace x_d := x_d.keep hb1; replace x_e := x_e.keep hb1; replace x_f := x_f.keep hb1; replace x_o := x_o.keep hb1; replace z5 := z5.keep hb1; replace z10 := z10.keep hb1; replace z11 := z11.keep hb1; replace z12 := z12.keep hb1; replace z13 := z13.keep hb1; replace z21 := z21.keep hb1; replace hb := bthen hb hb1; clear hb1; clear q_c0 f_c0 q_c1 f_c1; obtain ⟨q_c0, f_c0, q_c1, f_c1⟩ := x_c.al; clear q_e0 f_e0 q_e1 f_e1; obtain ⟨q_e0, f_e0, q_e1, f_e1⟩ := x_e.al; (try (have q_x0 := x_x.c0; have f_x0 := x_x.fr 0; have q_x1 := x_x.c1; have f_x1 := x_x.fr 1))) | (go_at_call 16; (with_reducible refine (ZMul_any z12.zr z12.zr 60 (by omega) (by omega)).mono ?_); rintro e v13 ⟨A31, n31, c31, rfl, s2, hb1⟩; (try replace x_x := x_x.keep hb1); replace hv := bthen hv hb1; have hvs_v13 := hv.size; replace x_a := x_a.keep hb1; replace x_c := x_c.keep hb1; replace x_d := x_d.keep hb1; replace x_e := x_e.keep hb1; replace x_f := x_f.keep hb1; replace x_o := x_o.keep hb1; replace z5 := z5.keep hb1; replace z10 := z10.keep hb1; replace z11 := z11.keep hb1; replace z12 := z12.keep hb1; replace z13 := z13.keep hb1; replace z21 := z21.keep hb1; replace s1 := s1.keep hb1; replace hb := bthen hb hb1; clear hb1; clear q_c0 f_c0 q_c1 f_c1; obtain ⟨q_c0, f_c0, q_c1, f_c1⟩ := x_c.al; clear q_e0 f_e0 q_e1 f_e1; obtain ⟨q_e0, f_e0, q_e1, f_e1⟩ := x_e.al; (try (have q_x0 := x_x.c0; have f_x0 := x_x.fr 0; have q_x1 := x_x.c1; have f_x1 := x_x.fr 1))) | (go_at_call 16; (with_reducible refine (ZMul_any (z12.keep (below_alloc v12 (.cells #[.bool false, .slice none 0 0] 24))).zr (z12.keep (below_alloc v12 (.cells #[.bool false, .slice none 0 0] 24))).zr 60 (by omega) (by omega)).mono ?_); rintro e v13 ⟨A31, n31, c31, rfl, s2, hb1⟩; have x_x := (Bx.new v12 false none 0 0).keep hb1; replace hb1 := bthen (below_alloc v12 (.cells #[.bool false, .slice none 0 0] 24)) hb1; replace hv := bthen hv hb1; have hvs_v13 := hv.size; replace x_a := x_a.keep hb1; replace x_c := x_c.keep hb1; replace x_d := x_d.keep hb1; replace x_e := x_e.keep hb1; replace x_f := x_f.keep hb1; replace x_o := x_o.keep hb1; replace z5 := z5.keep hb1; replace z10 := z10.keep hb1; replace z11 := z11.keep hb1; replace z12 := z12.keep hb1; replace z13 := z13.keep hb1; replace z21 := z21.keep hb1; replace s1 := s1.keep hb1; replace hb := bthen hb hb1; clear hb1; clear q_c0 f_c0 q_c1 f_c1; obtain ⟨q_c0, f_c0, q_c1, f_c1⟩ := x_c.al; clear q_e0 f_e0 q_e1 f_e1; obtain ⟨q_e0, f_e0, q_e1, f_e1⟩ := x_e.al; (try (have q_x0 := x_x.c0; have f_x0 := x_x.fr 0; have q_x1 := x_x.c1; have f_x1 := x_x.fr 1))) | (go_at_call 15; (with_reducible refine (ZAdd_any s1.zr s2.zr 61 (by omega) (by omega) (by omega)).mono ?_); rintro e v14 ⟨A32, n32, c32, rfl, s3, hb1⟩; (try replace x_x := x_x.keep hb1); replace hv := bthen hv hb1; have hvs_v14 := hv.size; replace x_a := x_a.keep hb1; replace x_c := x_c.keep hb1; replace x_d := x_d.keep hb1; replace x_e := x_e.keep hb1; replace x_f := x_f.keep hb1; replace x_o := x_o.keep hb1; replace z5 := z5.keep hb1; replace z10 := z10.keep hb1; replace z11 := z11.keep hb1; replace z12 := z12.keep hb1; replace z13 := z13.keep hb1; replace z21 := z21.keep hb1; replace s1 := s1.keep hb1; replace s2 := s2.keep hb1; replace hb := bthen hb hb1; clear hb1; clear q_c0 f_c0 q_c1 f_c1; obtain ⟨q_c0, f_c0, q_c1, f_c1⟩ := x_c.al; clear q_e0 f_e0 q_e1 f_e1; obtain ⟨q_e0, f_e0, q_e1, f_e1⟩ := x_e.al; rw [HL1.out] at s3 ⊢; (try (have q_x0 := x_x.c0; have f_x0 := x_x.fr 0; have q_x1 := x_x.c1; have f_x1 := x_x.fr 1))) | (go_at_call 15; (with_reducible refine (ZAdd_any (s1.keep (below_alloc v13 (.cells #[.bool false, .slice none 0 0] 24))).zr (s2.keep (below_alloc v13 (.cells #[.bool false, .slice none 0 0] 24))).zr 61 (by omega) (by omega) (by omega)).mono ?_); rintro e v14 ⟨A32, n32, c32, rfl, s3, hb1⟩; have x_x := (Bx.new v13 false none 0 0).keep hb1; replace hb1 := bthen (below_alloc v13 (.cells #[.bool false, .slice none 0 0] 24)) hb1; replace hv := bthen hv hb1; have hvs_v14 := hv.size; replace x_a := x_a.keep hb1; replace x_c := x_c.keep hb1; replace x_d := x_d.keep hb1; replace x_e := x_e.keep hb1; replace x_f := x_f.keep hb1; replace x_o := x_o.keep hb1; replace z5 := z5.keep hb1; replace z10 := z10.keep hb1; replace z11 := z11.keep hb1; replace z12 := z12.keep hb1; replace z13 := z13.keep hb1; replace z21 := z21.keep hb1; replace s1 := s1.keep hb1; replace s2 := s2.keep hb1; replace hb := bthen hb hb1; clear hb1; clear q_c0 f_c0 q_c1 f_c1; obtain ⟨q_c0, f_c0, q_c1, f_c1⟩ := x_c.al; clear q_e0 f_e0 q_e1 f_e1; obtain ⟨q_e0, f_e0, q_e1, f_e1⟩ := x_e.al; rw [HL1.out] at s3 ⊢; (try (have q_x0 := x_x.c0; have f_x0 := x_x.fr 0; have q_x1 := x_x.c1; have f_x1 := x_x.fr 1))))
    all_goals go_wp2_with fail
    all_goals go_meet
    all_goals first | (with_reducible exact BnNew1.new hv s3) | (with_reducible exact BnNew1.put hv x_x (by omega) s3)
  case rest =>
    obtain ⟨g15, Ax16, nx16, cx16, rfl, x_x, z_x, e_x, hb1⟩ := hcut
    clear hv
    replace x_a := x_a.keep hb1
    replace x_c := x_c.keep hb1
    replace x_d := x_d.keep hb1
    replace x_e := x_e.keep hb1
    replace x_f := x_f.keep hb1
    replace x_o := x_o.keep hb1
    replace z5 := z5.keep hb1
    replace z10 := z10.keep hb1
    replace z11 := z11.keep hb1
    replace z12 := z12.keep hb1
    replace z13 := z13.keep hb1
    replace z21 := z21.keep hb1
    replace hb := bthen hb hb1
    clear hb1
    clear q_c0 f_c0 q_c1 f_c1; obtain ⟨q_c0, f_c0, q_c1, f_c1⟩ := x_c.al
    clear q_e0 f_e0 q_e1 f_e1; obtain ⟨q_e0, f_e0, q_e1, f_e1⟩ := x_e.al
    clear q_c0 f_c0 q_c1 f_c1 q_e0 f_e0 q_e1 f_e1
    generalize wc = v17 at *
    obtain ⟨q_c0, f_c0, q_c1, f_c1⟩ := x_c.al
    obtain ⟨q_e0, f_e0, q_e1, f_e1⟩ := x_e.al
    obtain ⟨q_x0, f_x0, q_x1, f_x1⟩ := x_x.al
    clear q_c0 f_c0 q_c1 f_c1
    clear q_e0 f_e0 q_e1 f_e1
    clear q_x0 f_x0 q_x1 f_x1
    obtain ⟨q_d0, f_d0, q_d1, f_d1⟩ := x_d.al
    obtain ⟨q_f0, f_f0, q_f1, f_f1⟩ := x_f.al
    go_upto_region 9 with fail
    have hv := Below.refl v17.heap.size v17
    have l_a_y := x_a.lt
    have l_c_y := x_c.lt
    have l_d_y := x_d.lt
    have l_e_y := x_e.lt
    have l_f_y := x_f.lt
    have l_o_y := x_o.lt
    have l_x_y := x_x.lt
    go_cut [16] (fun s9 wx => BnNew1 v17 H1 61 s9 wx)
    case first =>
      go_region_held3 (fun w' => w'.cell? ⟨v5.heap.size + 1, 0, none⟩ = some (.bool (ngB R1)) ∧ w'.cell? ⟨v5.heap.size + 1, 1, none⟩ = some (.slice A11 n11 c11) ∧ w'.cell? ⟨v7.heap.size + 1, 0, none⟩ = some (.bool (ngB R2)) ∧ w'.cell? ⟨v7.heap.size + 1, 1, none⟩ = some (.slice A13 n13 c13))
        (first | (with_reducible exact ⟨x_d.c0, x_d.c1, x_f.c0, x_f.c1⟩) | (with_reducible exact ⟨(x_d.alloc _).c0, (x_d.alloc _).c1, (x_f.alloc _).c0, (x_f.alloc _).c1⟩) | (with_reducible exact ⟨(x_d.aside (by omega)).c0, (x_d.aside (by omega)).c1, (x_f.aside (by omega)).c0, (x_f.aside (by omega)).c1⟩) | (with_reducible exact ⟨((x_d.alloc _).aside (by omega)).c0, ((x_d.alloc _).aside (by omega)).c1, ((x_f.alloc _).aside (by omega)).c0, ((x_f.alloc _).aside (by omega)).c1⟩) | go_keep)
        (first | (go_at_call 16; (with_reducible refine (ZMul_any z11.drw.zr z11.drw.zr 60 (by omega) (by omega)).mono ?_); rintro e v18 ⟨A30, n30, c30, rfl, s1, hb1⟩; replace hb1 := undrew hb1; (try replace x_y := x_y.keep hb1); replace hv := bthen hv hb1; have hvs_v18 := hv.size; replace x_a := x_a.keep hb1; replace x_c := x_c.keep hb1; replace x_d := x_d.keep hb1; replace x_e := x_e.keep hb1; replace x_f := x_f.keep hb1; replace x_o := x_o.keep hb1; replace x_x := x_x.keep hb1; replace z5 := z5.keep hb1; replace z10 := z10.keep hb1; replace z11 := z11.keep hb1; replace z12 := z12.keep hb1; replace z13 := z13.keep hb1; replace z21 := z21.keep hb1; replace z_x := z_x.keep hb1; replace hb := bthen hb hb1; clear hb1; clear q_d0 f_d0 q_d1 f_d1; obtain ⟨q_d0, f_d0, q_d1, f_d1⟩ := x_d.al; clear q_f0 f_f0 q_f1 f_f1; obtain ⟨q_f0, f_f0, q_f1, f_f1⟩ := x_f.al; (try (have q_y0 := x_y.c0; have f_y0 := x_y.fr 0; have q_y1 := x_y.c1; have f_y1 := x_y.fr 1))) | (go_at_call 16; (with_reducible refine (ZMul_any (z11.keep (below_alloc v17 (.cells #[.bool false, .slice none 0 0] 24))).drw.zr (z11.keep (below_alloc v17 (.cells #[.bool false, .slice none 0 0] 24))).drw.zr 60 (by omega) (by omega)).mono ?_); rintro e v18 ⟨A30, n30, c30, rfl, s1, hb1⟩; replace hb1 := undrew hb1; have x_y := (Bx.new v17 false none 0 0).keep hb1; replace hb1 := bthen (below_alloc v17 (.cells #[.bool false, .slice none 0 0] 24)) hb1; replace hv := bthen hv hb1; have hvs_v18 := hv.size; replace x_a := x_a.keep hb1; replace x_c := x_c.keep hb1; replace x_d := x_d.keep hb1; replace x_e := x_e.keep hb1; replace x_f := x_f.keep hb1; replace x_o := x_o.keep hb1; replace x_x := x_x.keep hb1; replace z5 := z5.keep hb1; replace z10 := z10.keep hb1; replace z11 := z11.keep hb1; replace z12 := z12.keep hb1; replace z13 := z13.keep hb1; replace z21 := z21.keep hb1; replace z_x := z_x.keep hb1; replace hb := bthen hb hb1; clear hb1; clear q_d0 f_d0 q_d1 f_d1; obtain ⟨q_d0, f_d0, q_d1, f_d1⟩ := x_d.al; clear q_f0 f_f0 q_f1 f_f1; obtain ⟨q_f0, f_f0, q_f1, f_f1⟩ := x_f.al; (try (have q_y0 := x_y.c0; have f_y0 := x_y.fr 0; have q_y1 := x_y.c1; have f_y1 := x_y.fr 1))) | (go_at_call 16; (with_reducible refine (ZMul_any z13.zr z13.zr 60 (by omega) (by omega)).mono ?_); rintro e v19 ⟨A31, n31, c31, rfl, s2, hb1⟩; (try replace x_y := x_y.keep hb1); replace hv := bthen hv hb1; have hvs_v19 := hv.size; replace x_a := x_a.keep hb1; replace x_c := x_c.keep hb1; replace x_d := x_d.keep hb1; replace x_e := x_e.keep hb1; replace x_f := x_f.keep hb1; replace x_o := x_o.keep hb1; replace x_x := x_x.keep hb1; replace z5 := z5.keep hb1; replace z10 := z10.keep hb1; replace z11 := z11.keep hb1; replace z12 := z12.keep hb1; replace z13 := z13.keep hb1; replace z21 := z21.keep hb1; replace z_x := z_x.keep hb1; replace s1 := s1.keep hb1; replace hb := bthen hb hb1; clear hb1; clear q_d0 f_d0 q_d1 f_d1; obtain ⟨q_d0, f_d0, q_d1, f_d1⟩ := x_d.al; clear q_f0 f_f0 q_f1 f_f1; obtain ⟨q_f0, f_f0, q_f1, f_f1⟩ := x_f.al; (try (have q_y0 := x_y.c0; have f_y0 := x_y.fr 0; have q_y1 := x_y.c1; have f_y1 := x_y.fr 1))) | (go_at_call 16; (with_reducible refine (ZMul_any (z13.keep (below_alloc v18 (.cells #[.bool false, .slice none 0 0] 24))).zr (z13.keep (below_alloc v18 (.cells #[.bool false, .slice none 0 0] 24))).zr 60 (by omega) (by omega)).mono ?_); rintro e v19 ⟨A31, n31, c31, rfl, s2, hb1⟩; have x_y := (Bx.new v18 false none 0 0).keep hb1; replace hb1 := bthen (below_alloc v18 (.cells #[.bool false, .slice none 0 0] 24)) hb1; replace hv := bthen hv hb1; have hvs_v19 := hv.size; replace x_a := x_a.keep hb1; replace x_c := x_c.keep hb1; replace x_d := x_d.keep hb1; replace x_e := x_e.keep hb1; replace x_f := x_f.keep hb1; replace x_o := x_o.keep hb1; replace x_x := x_x.keep hb1; replace z5 := z5.keep hb1; replace z10 := z10.keep hb1; replace z11 := z11.keep hb1; replace z12 := z12.keep hb1; replace z13 := z13.keep hb1; replace z21 := z21.keep hb1; replace z_x := z_x.keep hb1; replace s1 := s1.keep hb1; replace hb := bthen hb hb1; clear hb1; clear q_d0 f_d0 q_d1 f_d1; obtain ⟨q_d0, f_d0, q_d1, f_d1⟩ := x_d.al; clear q_f0 f_f0 q_f1 f_f1; obtain ⟨q_f0, f_f0, q_f1, f_f1⟩ := x_f.al; (try (have q_y0 := x_y.c0; have f_y0 := x_y.fr 0; have q_y1 := x_y.c1; have f_y1 := x_y.fr 1))) | (go_at_call 15; (with_reducible refine (ZAdd_any s1.zr s2.zr 61 (by omega) (by omega) (by omega)).mono ?_); rintro e v20 ⟨A32, n32, c32, rfl, s3, hb1⟩; (try replace x_y := x_y.keep hb1); replace hv := bthen hv hb1; have hvs_v20 := hv.size; replace x_a := x_a.keep hb1; replace x_c := x_c.keep hb1; replace x_d := x_d.keep hb1; replace x_e := x_e.keep hb1; replace x_f := x_f.keep hb1; replace x_o := x_o.keep hb1; replace x_x := x_x.keep hb1; replace z5 := z5.keep hb1; replace z10 := z10.keep hb1; replace z11 := z11.keep hb1; replace z12 := z12.keep hb1; replace z13 := z13.keep hb1; replace z21 := z21.keep hb1; replace z_x := z_x.keep hb1; replace s1 := s1.keep hb1; replace s2 := s2.keep hb1; replace hb := bthen hb hb1; clear hb1; clear q_d0 f_d0 q_d1 f_d1; obtain ⟨q_d0, f_d0, q_d1, f_d1⟩ := x_d.al; clear q_f0 f_f0 q_f1 f_f1; obtain ⟨q_f0, f_f0, q_f1, f_f1⟩ := x_f.al; rw [HH1.out] at s3 ⊢; (try (have q_y0 := x_y.c0; have f_y0 := x_y.fr 0; have q_y1 := x_y.c1; have f_y1 := x_y.fr 1))) | (go_at_call 15; (with_reducible refine (ZAdd_any (s1.keep (below_alloc v19 (.cells #[.bool false, .slice none 0 0] 24))).zr (s2.keep (below_alloc v19 (.cells #[.bool false, .slice none 0 0] 24))).zr 61 (by omega) (by omega) (by omega)).mono ?_); rintro e v20 ⟨A32, n32, c32, rfl, s3, hb1⟩; have x_y := (Bx.new v19 false none 0 0).keep hb1; replace hb1 := bthen (below_alloc v19 (.cells #[.bool false, .slice none 0 0] 24)) hb1; replace hv := bthen hv hb1; have hvs_v20 := hv.size; replace x_a := x_a.keep hb1; replace x_c := x_c.keep hb1; replace x_d := x_d.keep hb1; replace x_e := x_e.keep hb1; replace x_f := x_f.keep hb1; replace x_o := x_o.keep hb1; replace x_x := x_x.keep hb1; replace z5 := z5.keep hb1; replace z10 := z10.keep hb1; replace z11 := z11.keep hb1; replace z12 := z12.keep hb1; replace z13 := z13.keep hb1; replace z21 := z21.keep hb1; replace z_x := z_x.keep hb1; replace s1 := s1.keep hb1; replace s2 := s2.keep hb1; replace hb := bthen hb hb1; clear hb1; clear q_d0 f_d0 q_d1 f_d1; obtain ⟨q_d0, f_d0, q_d1, f_d1⟩ := x_d.al; clear q_f0 f_f0 q_f1 f_f1; obtain ⟨q_f0, f_f0, q_f1, f_f1⟩ := x_f.al; rw [HH1.out] at s3 ⊢; (try (have q_y0 := x_y.c0; have f_y0 := x_y.fr 0; have q_y1 := x_y.c1; have f_y1 := x_y.fr 1))))
      all_goals go_wp2_with fail
      all_goals go_meet
      all_goals first | (with_reducible exact BnNew1.new hv s3) | (with_reducible exact BnNew1.put hv x_y (by omega) s3)
    case rest =>
      obtain ⟨g21, Ax22, nx22, cx22, rfl, x_y, z_y, e_y, hb1⟩ := hcut
      clear hv
      replace x_a := x_a.keep hb1
      replace x_c := x_c.keep hb1
      replace x_d := x_d.keep hb1
      replace x_e := x_e.keep hb1
      replace x_f := x_f.keep hb1
      replace x_o := x_o.keep hb1
      replace x_x := x_x.keep hb1
      replace z5 := z5.keep hb1
      replace z10 := z10.keep hb1
      replace z11 := z11.keep hb1
      replace z12 := z12.keep hb1
      replace z13 := z13.keep hb1
      replace z21 := z21.keep hb1
      replace z_x := z_x.keep hb1
      replace hb := bthen hb hb1
      clear hb1
      clear q_d0 f_d0 q_d1 f_d1; obtain ⟨q_d0, f_d0, q_d1, f_d1⟩ := x_d.al
      clear q_f0 f_f0 q_f1 f_f1; obtain ⟨q_f0, f_f0, q_f1, f_f1⟩ := x_f.al
      clear q_d0 f_d0 q_d1 f_d1 q_f0 f_f0 q_f1 f_f1
      generalize wc = v23 at *
      obtain ⟨q_d0, f_d0, q_d1, f_d1⟩ := x_d.al
      obtain ⟨q_f0, f_f0, q_f1, f_f1⟩ := x_f.al
      obtain ⟨q_y0, f_y0, q_y1, f_y1⟩ := x_y.al
      obtain ⟨q_c0, f_c0, q_c1, f_c1⟩ := x_c.al
      obtain ⟨q_o0, f_o0, q_o1, f_o1⟩ := x_o.al
      obtain ⟨q_x0, f_x0, q_x1, f_x1⟩ := x_x.al
      rcases hsg with hsg | ⟨hsg, hsg2⟩
      · go_wp2_with fail
        with_reducible refine (ZSign_any z10.zr (by omega)).mono ?_
        rintro e v24 ⟨rfl, hb1⟩
        replace x_a := x_a.keep hb1
        replace x_c := x_c.keep hb1
        replace x_d := x_d.keep hb1
        replace x_e := x_e.keep hb1
        replace x_f := x_f.keep hb1
        replace x_o := x_o.keep hb1
        replace x_x := x_x.keep hb1
        replace x_y := x_y.keep hb1
        replace z5 := z5.keep hb1
        replace z10 := z10.keep hb1
        replace z11 := z11.keep hb1
        replace z12 := z12.keep hb1
        replace z13 := z13.keep hb1
        replace z21 := z21.keep hb1
        replace z_x := z_x.keep hb1
        replace z_y := z_y.keep hb1
        replace hb := bthen hb hb1
        clear hb1
        clear q_c0 f_c0 q_c1 f_c1; obtain ⟨q_c0, f_c0, q_c1, f_c1⟩ := x_c.al
        clear q_d0 f_d0 q_d1 f_d1; obtain ⟨q_d0, f_d0, q_d1, f_d1⟩ := x_d.al
        clear q_f0 f_f0 q_f1 f_f1; obtain ⟨q_f0, f_f0, q_f1, f_f1⟩ := x_f.al
        clear q_o0 f_o0 q_o1 f_o1; obtain ⟨q_o0, f_o0, q_o1, f_o1⟩ := x_o.al
        clear q_x0 f_x0 q_x1 f_x1; obtain ⟨q_x0, f_x0, q_x1, f_x1⟩ := x_x.al
        clear q_y0 f_y0 q_y1 f_y1; obtain ⟨q_y0, f_y0, q_y1, f_y1⟩ := x_y.al
        rw [HS1.out]
        go_wp2_with fail
        with_reducible refine (ZCmp_any z21.zr z_y.zr (by omega) (by omega)).mono ?_
        rintro e v25 ⟨rfl, hb1⟩
        replace x_a := x_a.keep hb1
        replace x_c := x_c.keep hb1
        replace x_d := x_d.keep hb1
        replace x_e := x_e.keep hb1
        replace x_f := x_f.keep hb1
        replace x_o := x_o.keep hb1
        replace x_x := x_x.keep hb1
        replace x_y := x_y.keep hb1
        replace z5 := z5.keep hb1
        replace z10 := z10.keep hb1
        replace z11 := z11.keep hb1
        replace z12 := z12.keep hb1
        replace z13 := z13.keep hb1
        replace z21 := z21.keep hb1
        replace z_x := z_x.keep hb1
        replace z_y := z_y.keep hb1
        replace hb := bthen hb hb1
        clear hb1
        clear q_c0 f_c0 q_c1 f_c1; obtain ⟨q_c0, f_c0, q_c1, f_c1⟩ := x_c.al
        clear q_d0 f_d0 q_d1 f_d1; obtain ⟨q_d0, f_d0, q_d1, f_d1⟩ := x_d.al
        clear q_f0 f_f0 q_f1 f_f1; obtain ⟨q_f0, f_f0, q_f1, f_f1⟩ := x_f.al
        clear q_o0 f_o0 q_o1 f_o1; obtain ⟨q_o0, f_o0, q_o1, f_o1⟩ := x_o.al
        clear q_x0 f_x0 q_x1 f_x1; obtain ⟨q_x0, f_x0, q_x1, f_x1⟩ := x_x.al
        clear q_y0 f_y0 q_y1 f_y1; obtain ⟨q_y0, f_y0, q_y1, f_y1⟩ := x_y.al
        rw [HS3.out]
        go_wp2
        go_ret
        exact ⟨by first | (simp; done) | (simp; omega), hb⟩
      · go_wp2_with fail
        with_reducible refine (ZSign_any z10.zr (by omega)).mono ?_
        rintro e v24 ⟨rfl, hb1⟩
        replace x_a := x_a.keep hb1
        replace x_c := x_c.keep hb1
        replace x_d := x_d.keep hb1
        replace x_e := x_e.keep hb1
        replace x_f := x_f.keep hb1
        replace x_o := x_o.keep hb1
        replace x_x := x_x.keep hb1
        replace x_y := x_y.keep hb1
        replace z5 := z5.keep hb1
        replace z10 := z10.keep hb1
        replace z11 := z11.keep hb1
        replace z12 := z12.keep hb1
        replace z13 := z13.keep hb1
        replace z21 := z21.keep hb1
        replace z_x := z_x.keep hb1
        replace z_y := z_y.keep hb1
        replace hb := bthen hb hb1
        clear hb1
        clear q_c0 f_c0 q_c1 f_c1; obtain ⟨q_c0, f_c0, q_c1, f_c1⟩ := x_c.al
        clear q_d0 f_d0 q_d1 f_d1; obtain ⟨q_d0, f_d0, q_d1, f_d1⟩ := x_d.al
        clear q_f0 f_f0 q_f1 f_f1; obtain ⟨q_f0, f_f0, q_f1, f_f1⟩ := x_f.al
        clear q_o0 f_o0 q_o1 f_o1; obtain ⟨q_o0, f_o0, q_o1, f_o1⟩ := x_o.al
        clear q_x0 f_x0 q_x1 f_x1; obtain ⟨q_x0, f_x0, q_x1, f_x1⟩ := x_x.al
        clear q_y0 f_y0 q_y1 f_y1; obtain ⟨q_y0, f_y0, q_y1, f_y1⟩ := x_y.al
        rw [HS1.out]
        go_wp2_with fail
        with_reducible refine (ZCmp_any z_x.zr z21.zr (by omega) (by omega)).mono ?_
        rintro e v25 ⟨rfl, hb1⟩
        replace x_a := x_a.keep hb1
        replace x_c := x_c.keep hb1
        replace x_d := x_d.keep hb1
        replace x_e := x_e.keep hb1
        replace x_f := x_f.keep hb1
        replace x_o := x_o.keep hb1
        replace x_x := x_x.keep hb1
        replace x_y := x_y.keep hb1
        replace z5 := z5.keep hb1
        replace z10 := z10.keep hb1
        replace z11 := z11.keep hb1
        replace z12 := z12.keep hb1
        replace z13 := z13.keep hb1
        replace z21 := z21.keep hb1
        replace z_x := z_x.keep hb1
        replace z_y := z_y.keep hb1
        replace hb := bthen hb hb1
        clear hb1
        clear q_c0 f_c0 q_c1 f_c1; obtain ⟨q_c0, f_c0, q_c1, f_c1⟩ := x_c.al
        clear q_d0 f_d0 q_d1 f_d1; obtain ⟨q_d0, f_d0, q_d1, f_d1⟩ := x_d.al
        clear q_f0 f_f0 q_f1 f_f1; obtain ⟨q_f0, f_f0, q_f1, f_f1⟩ := x_f.al
        clear q_o0 f_o0 q_o1 f_o1; obtain ⟨q_o0, f_o0, q_o1, f_o1⟩ := x_o.al
        clear q_x0 f_x0 q_x1 f_x1; obtain ⟨q_x0, f_x0, q_x1, f_x1⟩ := x_x.al
        clear q_y0 f_y0 q_y1 f_y1; obtain ⟨q_y0, f_y0, q_y1, f_y1⟩ := x_y.al
        rw [HS2.out]
        go_wp2_with fail
        with_reducible refine (ZCmp_any z21.zr z_y.zr (by omega) (by omega)).mono ?_
        rintro e v26 ⟨rfl, hb1⟩
        replace x_a := x_a.keep hb1
        replace x_c := x_c.keep hb1
        replace x_d := x_d.keep hb1
        replace x_e := x_e.keep hb1
        replace x_f := x_f.keep hb1
        replace x_o := x_o.keep hb1
        replace x_x := x_x.keep hb1
        replace x_y := x_y.keep hb1
        replace z5 := z5.keep hb1
        replace z10 := z10.keep hb1
        replace z11 := z11.keep hb1
        replace z12 := z12.keep hb1
        replace z13 := z13.keep hb1
        replace z21 := z21.keep hb1
        replace z_x := z_x.keep hb1
        replace z_y := z_y.keep hb1
        replace hb := bthen hb hb1
        clear hb1
        clear q_c0 f_c0 q_c1 f_c1; obtain ⟨q_c0, f_c0, q_c1, f_c1⟩ := x_c.al
        clear q_d0 f_d0 q_d1 f_d1; obtain ⟨q_d0, f_d0, q_d1, f_d1⟩ := x_d.al
        clear q_f0 f_f0 q_f1 f_f1; obtain ⟨q_f0, f_f0, q_f1, f_f1⟩ := x_f.al
        clear q_o0 f_o0 q_o1 f_o1; obtain ⟨q_o0, f_o0, q_o1, f_o1⟩ := x_o.al
        clear q_x0 f_x0 q_x1 f_x1; obtain ⟨q_x0, f_x0, q_x1, f_x1⟩ := x_x.al
        clear q_y0 f_y0 q_y1 f_y1; obtain ⟨q_y0, f_y0, q_y1, f_y1⟩ := x_y.al
        rw [HS3.out]
        go_wp2
        go_ret
        exact ⟨by first | (simp; done) | (simp; omega), hb⟩

end Go.Proofs.Ythlpdljkclngdaa
