/-
  The law RowsOrder, as a call.
-/
import Derived.Test.YthlpdljkclngdaaKmask
namespace Go.Proofs.Ythlpdljkclngdaa
open Go.RowKit
set_option linter.unusedVariables false

set_option maxRecDepth 100000 in
set_option maxHeartbeats 32000000 in
theorem RowsOrder_any {b : Bool} {A : Option Addr} {n c : Nat} {l : List Int} {q n1 m1 : Int} {w : World} (h : Rd w w.heap.size A n c l) (hq : -9223372036854775808 ≤ q ∧ q ≤ 9223372036854775807) (hn1 : -9223372036854775808 ≤ n1 ∧ n1 ≤ 9223372036854775807) (hm1 : -9223372036854775808 ≤ m1 ∧ m1 ≤ 9223372036854775807) :
    Calls Try.prog 3 #[.agg #[.bool b, .slice A n c], .int .i64 q, .int .i64 n1, .int .i64 m1] w fun e w' => e = .returned (.bool true) ∧ Below w.heap.size w w' := by
  obtain ⟨sq, hsq, Q, wq, lq, uq, hqq⟩ := masked127 q 1 (by omega)
  obtain ⟨sn1, hsn1, N, wn1, ln1, un1, hqn1⟩ := masked31 n1 1 (by omega)
  obtain ⟨sm1, hsm1, M, wm1, lm1, um1, hqm1⟩ := masked31 m1 1 (by omega)
  clear hqq hqn1 hqm1
  go_enter Try.func3, Try.ntmps3
  go_upto_region 1 with fail
  have x_a : Bx (w.alloc (.cells #[.bool b, .slice A n c] 24)) (w.heap.size) b A n c := by have := Bx.new w b A n c; simpa using this
  have hb : Below w.heap.size w (w.alloc (.cells #[.bool b, .slice A n c] 24)) := (Below.alloc (Below.refl w.heap.size w) (by simp) (.cells #[.bool b, .slice A n c] 24))
  generalize w.alloc (.cells #[.bool b, .slice A n c] 24) = v1 at *
  replace h := h.go hb
  obtain ⟨q_a0, f_a0, q_a1, f_a1⟩ := x_a.al
  go_wp2_with fail
  with_reducible refine (Kshown_any _).mono ?_
  rintro e v2 ⟨rfl, hb1⟩
  replace x_a := x_a.keep hb1
  replace h := h.go hb1
  replace hb := bthen hb hb1
  clear hb1
  clear q_a0 f_a0 q_a1 f_a1; obtain ⟨q_a0, f_a0, q_a1, f_a1⟩ := x_a.al
  go_wp2_with fail
  with_reducible refine (Part_any h Q (by omega) (by omega)).mono ?_
  rintro e v3 ⟨T, ⟨A5, n5, c5, rfl, z5, hb1⟩, hT0, hT1⟩
  replace x_a := x_a.keep hb1
  replace h := h.go hb1
  replace hb := bthen hb hb1
  clear hb1
  clear q_a0 f_a0 q_a1 f_a1; obtain ⟨q_a0, f_a0, q_a1, f_a1⟩ := x_a.al
  have HT := Lib.hid (And.intro hT0 hT1)
  clear hT0 hT1
  clear h
  go_upto_region 4 with fail
  replace z5 := z5.put (b' := (ngB T)) (A' := A5) (n' := n5) (c' := c5) x_a
  replace hb := put_below (g := w.heap.size) hb (by omega) (.bool (ngB T)) (.slice A5 n5 c5)
  replace x_a := x_a.put (ngB T) A5 n5 c5
  clear q_a0 f_a0 q_a1 f_a1
  generalize (v3.setCell ⟨w.heap.size, 0, none⟩ (.bool (ngB T))).setCell ⟨w.heap.size, 1, none⟩ (.slice A5 n5 c5) = v4 at *
  obtain ⟨q_a0, f_a0, q_a1, f_a1⟩ := x_a.al
  go_upto_region 7 with fail
  have hrel0 : LoR w (ngB T) A5 n5 c5 T 20 v4 := ⟨hb, x_a, z5.zr⟩
  clear q_a0 f_a0 q_a1 f_a1
  clear hb x_a z5
  go_loopw [10] (fun kv wr => ∃ k : Nat, k ≤ 5 ∧ kv = .int .i64 (k : Int) ∧ LoR w (ngB T) A5 n5 c5 T 20 wr) (fun kv _ => 7 - (intOf kv).toNat)
  case atStart => exact ⟨0, by omega, rfl, hrel0⟩
  case round =>
    clear hrel0
    obtain ⟨k, hk, rfl, hb, x_a, z_a⟩ := hrel
    rcases (show k = 5 ∨ k < 5 by omega) with hk2 | hk2
    · subst hk2; obtain ⟨q_a0, f_a0, q_a1, f_a1⟩ := x_a.al; go_wp2; go_ret; exact ⟨rfl, hb⟩
    · have hT := HT.out
      obtain ⟨P1, hP1⟩ : ∃ e, rwLo k T Q N = e := ⟨_, rfl⟩
      obtain ⟨R1, hR1⟩ : ∃ e, rwHi k T Q N = e := ⟨_, rfl⟩
      obtain ⟨P2, hP2⟩ : ∃ e, rwLo k T Q M = e := ⟨_, rfl⟩
      obtain ⟨R2, hR2⟩ : ∃ e, rwHi k T Q M = e := ⟨_, rfl⟩
      have oS1 : P1 ≤ R1 := by rw [← hP1, ← hR1]; exact rw_order hT.1 hT.2 k N N
      obtain ⟨S1, hS1⟩ : ∃ e, sgnI (P1 - R1) = e := ⟨_, rfl⟩
      have iS1 : S1 ≤ 0 := by rw [← hS1]; exact sgn_le0 (by omega)
      have oS2 : P1 ≤ R2 := by rw [← hP1, ← hR2]; exact rw_order hT.1 hT.2 k N M
      obtain ⟨S2, hS2⟩ : ∃ e, sgnI (P1 - R2) = e := ⟨_, rfl⟩
      have iS2 : S2 ≤ 0 := by rw [← hS2]; exact sgn_le0 (by omega)
      have oS3 : P2 ≤ R1 := by rw [← hP2, ← hR1]; exact rw_order hT.1 hT.2 k M N
      obtain ⟨S3, hS3⟩ : ∃ e, sgnI (P2 - R1) = e := ⟨_, rfl⟩
      have iS3 : S3 ≤ 0 := by rw [← hS3]; exact sgn_le0 (by omega)
      have HP1 := Lib.hid hP1
      have HR1 := Lib.hid hR1
      have HP2 := Lib.hid hP2
      have HR2 := Lib.hid hR2
      have HS1 := Lib.hid hS1
      have HS2 := Lib.hid hS2
      have HS3 := Lib.hid hS3
      have HT2 := Lib.hid hT
      clear hT oS1 oS2 oS3 hP1 hR1 hP2 hR2 hS1 hS2 hS3
      obtain ⟨q_a0, f_a0, q_a1, f_a1⟩ := x_a.al
      go_wp2_with fail
      with_reducible refine (Lsum_yes z_a k (by omega) Q N (by omega) (by omega) HT.out (by omega)).mono ?_
      rintro e v31 ⟨A10, n10, c10, A11, n11, c11, rfl, z10, z11, hb1⟩
      replace x_a := x_a.keep hb1
      replace z_a := z_a.keep hb1
      replace hb := bthen hb hb1
      clear hb1
      clear q_a0 f_a0 q_a1 f_a1; obtain ⟨q_a0, f_a0, q_a1, f_a1⟩ := x_a.al
      rw [HP1.out] at z10 ⊢
      rw [HR1.out] at z11 ⊢
      have y_a := ((x_a.alloc (.cells #[.bool (ngB P1), .slice A10 n10 c10] 24)).alloc (.cells #[.bool (ngB R1), .slice A11 n11 c11] 24)); have yq_a0 := y_a.c0; have yq_a1 := y_a.c1
      go_upto_region 10 with fail
      clear y_a yq_a0 yq_a1
      have l_a_c := x_a.lt
      have e_c : w.heap.size ≤ v31.heap.size := hb.size
      have hb1 := below_alloc2 v31 (.cells #[.bool (ngB P1), .slice A10 n10 c10] 24) (.cells #[.bool (ngB R1), .slice A11 n11 c11] 24)
      have x_c := (Bx.new v31 (ngB P1) A10 n10 c10).alloc (.cells #[.bool (ngB R1), .slice A11 n11 c11] 24)
      have x_d : Bx ((v31.alloc (.cells #[.bool (ngB P1), .slice A10 n10 c10] 24)).alloc (.cells #[.bool (ngB R1), .slice A11 n11 c11] 24)) (v31.heap.size + 1) (ngB R1) A11 n11 c11 := by have := Bx.new (v31.alloc (.cells #[.bool (ngB P1), .slice A10 n10 c10] 24)) (ngB R1) A11 n11 c11; simpa using this
      clear q_a0 f_a0 q_a1 f_a1
      replace x_a := x_a.keep hb1
      replace z_a := z_a.keep hb1
      replace z10 := z10.keep hb1
      replace z11 := z11.keep hb1
      replace hb := bthen hb hb1
      clear hb1
      generalize (v31.alloc (.cells #[.bool (ngB P1), .slice A10 n10 c10] 24)).alloc (.cells #[.bool (ngB R1), .slice A11 n11 c11] 24) = v32 at *
      obtain ⟨q_a0, f_a0, q_a1, f_a1⟩ := x_a.al
      obtain ⟨q_c0, f_c0, q_c1, f_c1⟩ := x_c.al
      obtain ⟨q_d0, f_d0, q_d1, f_d1⟩ := x_d.al
      go_wp2_with fail
      with_reducible refine (Lsum_yes z_a k (by omega) Q M (by omega) (by omega) HT.out (by omega)).mono ?_
      rintro e v33 ⟨A12, n12, c12, A13, n13, c13, rfl, z12, z13, hb1⟩
      replace x_a := x_a.keep hb1
      replace x_c := x_c.keep hb1
      replace x_d := x_d.keep hb1
      replace z_a := z_a.keep hb1
      replace z10 := z10.keep hb1
      replace z11 := z11.keep hb1
      replace hb := bthen hb hb1
      clear hb1
      clear q_a0 f_a0 q_a1 f_a1; obtain ⟨q_a0, f_a0, q_a1, f_a1⟩ := x_a.al
      clear q_c0 f_c0 q_c1 f_c1; obtain ⟨q_c0, f_c0, q_c1, f_c1⟩ := x_c.al
      clear q_d0 f_d0 q_d1 f_d1; obtain ⟨q_d0, f_d0, q_d1, f_d1⟩ := x_d.al
      rw [HP2.out] at z12 ⊢
      rw [HR2.out] at z13 ⊢
      have y_a := ((x_a.alloc (.cells #[.bool (ngB P2), .slice A12 n12 c12] 24)).alloc (.cells #[.bool (ngB R2), .slice A13 n13 c13] 24)); have yq_a0 := y_a.c0; have yq_a1 := y_a.c1
      have y_c := ((x_c.alloc (.cells #[.bool (ngB P2), .slice A12 n12 c12] 24)).alloc (.cells #[.bool (ngB R2), .slice A13 n13 c13] 24)); have yq_c0 := y_c.c0; have yq_c1 := y_c.c1
      have y_d := ((x_d.alloc (.cells #[.bool (ngB P2), .slice A12 n12 c12] 24)).alloc (.cells #[.bool (ngB R2), .slice A13 n13 c13] 24)); have yq_d0 := y_d.c0; have yq_d1 := y_d.c1
      go_upto_region 11 with fail
      clear y_a yq_a0 yq_a1 y_c yq_c0 yq_c1 y_d yq_d0 yq_d1
      have l_a_e := x_a.lt
      have l_c_e := x_c.lt
      have l_d_e := x_d.lt
      have e_e : w.heap.size ≤ v33.heap.size := hb.size
      have hb1 := below_alloc2 v33 (.cells #[.bool (ngB P2), .slice A12 n12 c12] 24) (.cells #[.bool (ngB R2), .slice A13 n13 c13] 24)
      have x_e := (Bx.new v33 (ngB P2) A12 n12 c12).alloc (.cells #[.bool (ngB R2), .slice A13 n13 c13] 24)
      have x_f : Bx ((v33.alloc (.cells #[.bool (ngB P2), .slice A12 n12 c12] 24)).alloc (.cells #[.bool (ngB R2), .slice A13 n13 c13] 24)) (v33.heap.size + 1) (ngB R2) A13 n13 c13 := by have := Bx.new (v33.alloc (.cells #[.bool (ngB P2), .slice A12 n12 c12] 24)) (ngB R2) A13 n13 c13; simpa using this
      clear q_a0 f_a0 q_a1 f_a1 q_c0 f_c0 q_c1 f_c1 q_d0 f_d0 q_d1 f_d1
      replace x_a := x_a.keep hb1
      replace x_c := x_c.keep hb1
      replace x_d := x_d.keep hb1
      replace z_a := z_a.keep hb1
      replace z10 := z10.keep hb1
      replace z11 := z11.keep hb1
      replace z12 := z12.keep hb1
      replace z13 := z13.keep hb1
      replace hb := bthen hb hb1
      clear hb1
      generalize (v33.alloc (.cells #[.bool (ngB P2), .slice A12 n12 c12] 24)).alloc (.cells #[.bool (ngB R2), .slice A13 n13 c13] 24) = v34 at *
      obtain ⟨q_a0, f_a0, q_a1, f_a1⟩ := x_a.al
      obtain ⟨q_c0, f_c0, q_c1, f_c1⟩ := x_c.al
      obtain ⟨q_d0, f_d0, q_d1, f_d1⟩ := x_d.al
      obtain ⟨q_e0, f_e0, q_e1, f_e1⟩ := x_e.al
      obtain ⟨q_f0, f_f0, q_f1, f_f1⟩ := x_f.al
      go_wp2_with fail
      with_reducible refine (ZCmp_any z10.zr z11.zr (by omega) (by omega)).mono ?_
      rintro e v35 ⟨rfl, hb1⟩
      replace x_a := x_a.keep hb1
      replace x_c := x_c.keep hb1
      replace x_d := x_d.keep hb1
      replace x_e := x_e.keep hb1
      replace x_f := x_f.keep hb1
      replace z_a := z_a.keep hb1
      replace z10 := z10.keep hb1
      replace z11 := z11.keep hb1
      replace z12 := z12.keep hb1
      replace z13 := z13.keep hb1
      replace hb := bthen hb hb1
      clear hb1
      clear q_a0 f_a0 q_a1 f_a1; obtain ⟨q_a0, f_a0, q_a1, f_a1⟩ := x_a.al
      clear q_c0 f_c0 q_c1 f_c1; obtain ⟨q_c0, f_c0, q_c1, f_c1⟩ := x_c.al
      clear q_d0 f_d0 q_d1 f_d1; obtain ⟨q_d0, f_d0, q_d1, f_d1⟩ := x_d.al
      clear q_e0 f_e0 q_e1 f_e1; obtain ⟨q_e0, f_e0, q_e1, f_e1⟩ := x_e.al
      clear q_f0 f_f0 q_f1 f_f1; obtain ⟨q_f0, f_f0, q_f1, f_f1⟩ := x_f.al
      rw [HS1.out]
      go_wp2_with fail
      with_reducible refine (ZCmp_any z10.zr z13.zr (by omega) (by omega)).mono ?_
      rintro e v36 ⟨rfl, hb1⟩
      replace x_a := x_a.keep hb1
      replace x_c := x_c.keep hb1
      replace x_d := x_d.keep hb1
      replace x_e := x_e.keep hb1
      replace x_f := x_f.keep hb1
      replace z_a := z_a.keep hb1
      replace z10 := z10.keep hb1
      replace z11 := z11.keep hb1
      replace z12 := z12.keep hb1
      replace z13 := z13.keep hb1
      replace hb := bthen hb hb1
      clear hb1
      clear q_a0 f_a0 q_a1 f_a1; obtain ⟨q_a0, f_a0, q_a1, f_a1⟩ := x_a.al
      clear q_c0 f_c0 q_c1 f_c1; obtain ⟨q_c0, f_c0, q_c1, f_c1⟩ := x_c.al
      clear q_d0 f_d0 q_d1 f_d1; obtain ⟨q_d0, f_d0, q_d1, f_d1⟩ := x_d.al
      clear q_e0 f_e0 q_e1 f_e1; obtain ⟨q_e0, f_e0, q_e1, f_e1⟩ := x_e.al
      clear q_f0 f_f0 q_f1 f_f1; obtain ⟨q_f0, f_f0, q_f1, f_f1⟩ := x_f.al
      rw [HS2.out]
      go_wp2_with fail
      with_reducible refine (ZCmp_any z12.zr z11.zr (by omega) (by omega)).mono ?_
      rintro e v37 ⟨rfl, hb1⟩
      replace x_a := x_a.keep hb1
      replace x_c := x_c.keep hb1
      replace x_d := x_d.keep hb1
      replace x_e := x_e.keep hb1
      replace x_f := x_f.keep hb1
      replace z_a := z_a.keep hb1
      replace z10 := z10.keep hb1
      replace z11 := z11.keep hb1
      replace z12 := z12.keep hb1
      replace z13 := z13.keep hb1
      replace hb := bthen hb hb1
      clear hb1
      clear q_a0 f_a0 q_a1 f_a1; obtain ⟨q_a0, f_a0, q_a1, f_a1⟩ := x_a.al
      clear q_c0 f_c0 q_c1 f_c1; obtain ⟨q_c0, f_c0, q_c1, f_c1⟩ := x_c.al
      clear q_d0 f_d0 q_d1 f_d1; obtain ⟨q_d0, f_d0, q_d1, f_d1⟩ := x_d.al
      clear q_e0 f_e0 q_e1 f_e1; obtain ⟨q_e0, f_e0, q_e1, f_e1⟩ := x_e.al
      clear q_f0 f_f0 q_f1 f_f1; obtain ⟨q_f0, f_f0, q_f1, f_f1⟩ := x_f.al
      rw [HS3.out]
      go_wp2_with fail
      go_roundw
      case rel => exact ⟨k + 1, by omega, by go_num, hb, x_a, z_a⟩
      case measure => simp [intOf]; omega

end Go.Proofs.Ythlpdljkclngdaa
