/-
  The law RowsPlaces, as a call.
-/
import Derived.Test.YthlpdljkclngdaaKmask
namespace Go.Proofs.Ythlpdljkclngdaa
open Go.RowKit
set_option linter.unusedVariables false

theorem pl_bd {T : Int} {Q S : Nat} (h : 0 ≤ T ∧ 2 * T ≤ twP Q) : 0 ≤ T * twP S ∧ 2 * (T * twP S) ≤ twP (Q + S) := by
  have p := tw_pos S
  refine ⟨Int.mul_nonneg h.1 (Int.le_of_lt p), ?_⟩
  rw [tw_add, ← Int.mul_assoc]
  exact Int.mul_le_mul_of_nonneg_right h.2 (Int.le_of_lt p)
set_option maxRecDepth 100000 in
set_option maxHeartbeats 64000000 in
theorem RowsPlaces_any {b : Bool} {A : Option Addr} {n c : Nat} {l : List Int} {q m1 n1 : Int} {w : World} (h : Rd w w.heap.size A n c l) (hq : -9223372036854775808 ≤ q ∧ q ≤ 9223372036854775807) (hm1 : -9223372036854775808 ≤ m1 ∧ m1 ≤ 9223372036854775807) (hn1 : -9223372036854775808 ≤ n1 ∧ n1 ≤ 9223372036854775807) :
    Calls Try.prog 4 #[.agg #[.bool b, .slice A n c], .int .i64 q, .int .i64 m1, .int .i64 n1] w fun e w' => e = .returned (.bool true) ∧ Below w.heap.size w w' := by
  obtain ⟨sq, hsq, Q, wq, lq, uq, hqq⟩ := masked63 q 1 (by omega)
  obtain ⟨sm1, hsm1, S, wm1, lm1, um1, hqm1⟩ := masked127 m1 0 (by omega)
  obtain ⟨sn1, hsn1, N, wn1, ln1, un1, hqn1⟩ := masked31 n1 1 (by omega)
  have hm2 : sm1 = (S : Int) := by omega
  rw [hm2] at hsm1
  have w3 : IntKind.i64.wrap ((Q : Int) + S) = ((Q + S : Nat) : Int) := by rw [wrapK (by omega) (by omega)]; omega
  obtain ⟨QS, hQS⟩ : ∃ e, Q + S = e := ⟨_, rfl⟩
  rw [hQS] at w3
  have hsc : (2 : Int) ^ sc (S : Int) = twP S := tw_sc (by omega)
  have HSC := Lib.hid hsc; have HQS := Lib.hid hQS
  have hQS2 : QS ≤ 300 := by omega
  clear hm2 hqq hqm1 hqn1 hsc hQS wm1
  go_enter Try.func4, Try.ntmps4
  go_upto_region 1 with fail
  have x_a : Bx (w.alloc (.cells #[.bool b, .slice A n c] 24)) (w.heap.size) b A n c := by have := Bx.new w b A n c; simpa using this
  have hb : Below w.heap.size w (w.alloc (.cells #[.bool b, .slice A n c] 24)) := (Below.alloc (Below.refl w.heap.size w) (by simp) (.cells #[.bool b, .slice A n c] 24))
  generalize w.alloc (.cells #[.bool b, .slice A n c] 24) = v1 at *
  replace h := h.go hb
  obtain ⟨q_a0, f_a0, q_a1, f_a1⟩ := x_a.al
  go_wp2_with fail
  with_reducible refine (Kshown_any _).mono ?_
  rintro e v2 ⟨rfl, hb1⟩
  replace x_a := x_a.keep hb1
  replace h := h.go hb1
  replace hb := bthen hb hb1
  clear hb1
  clear q_a0 f_a0 q_a1 f_a1; obtain ⟨q_a0, f_a0, q_a1, f_a1⟩ := x_a.al
  go_wp2_with fail
  with_reducible refine (Part_any h Q (by omega) (by omega)).mono ?_
  rintro e v3 ⟨T, ⟨A5, n5, c5, rfl, z5, hb1⟩, hT0, hT1⟩
  replace x_a := x_a.keep hb1
  replace h := h.go hb1
  replace hb := bthen hb hb1
  clear hb1
  clear q_a0 f_a0 q_a1 f_a1; obtain ⟨q_a0, f_a0, q_a1, f_a1⟩ := x_a.al
  have HT := Lib.hid (And.intro hT0 hT1)
  clear hT0 hT1
  clear h
  go_upto_region 4 with fail
  replace z5 := z5.put (b' := (ngB T)) (A' := A5) (n' := n5) (c' := c5) x_a
  replace hb := put_below (g := w.heap.size) hb (by omega) (.bool (ngB T)) (.slice A5 n5 c5)
  replace x_a := x_a.put (ngB T) A5 n5 c5
  clear q_a0 f_a0 q_a1 f_a1
  generalize (v3.setCell ⟨w.heap.size, 0, none⟩ (.bool (ngB T))).setCell ⟨w.heap.size, 1, none⟩ (.slice A5 n5 c5) = v4 at *
  obtain ⟨q_a0, f_a0, q_a1, f_a1⟩ := x_a.al
  go_upto_region 7 with fail
  have hrel0 : LoR w (ngB T) A5 n5 c5 T 20 v4 := ⟨hb, x_a, z5.zr⟩
  clear q_a0 f_a0 q_a1 f_a1
  clear hb x_a z5
  go_loopw [10] (fun kv wr => ∃ k : Nat, k ≤ 5 ∧ kv = .int .i64 (k : Int) ∧ LoR w (ngB T) A5 n5 c5 T 20 wr) (fun kv _ => 7 - (intOf kv).toNat)
  case atStart => exact ⟨0, by omega, rfl, hrel0⟩
  case round =>
    clear hrel0
    obtain ⟨k, hk, rfl, hb, x_a, z_a⟩ := hrel
    rcases (show k = 5 ∨ k < 5 by omega) with hk2 | hk2
    · subst hk2; obtain ⟨q_a0, f_a0, q_a1, f_a1⟩ := x_a.al; go_wp2; go_ret; exact ⟨rfl, hb⟩
    · have hT := HT.out
      have hU : 0 ≤ T * twP S ∧ 2 * (T * twP S) ≤ twP QS := by rw [← HQS.out]; exact pl_bd hT
      have hpl := rw_places hT.1 hT.2 k N S
      rw [HQS.out] at hpl
      obtain ⟨U, hU9⟩ : ∃ e, T * twP S = e := ⟨_, rfl⟩
      rw [hU9] at hU hpl
      obtain ⟨P1, hP1⟩ : ∃ e, rwLo k T Q N = e := ⟨_, rfl⟩
      obtain ⟨R1, hR1⟩ : ∃ e, rwHi k T Q N = e := ⟨_, rfl⟩
      obtain ⟨P2, hP2⟩ : ∃ e, rwLo k U QS N = e := ⟨_, rfl⟩
      obtain ⟨R2, hR2⟩ : ∃ e, rwHi k U QS N = e := ⟨_, rfl⟩
      rw [hP1, hR1, hP2, hR2] at hpl
      obtain ⟨P3, hP3⟩ : ∃ e, P1 * twP S = e := ⟨_, rfl⟩
      obtain ⟨R3, hR3⟩ : ∃ e, R1 * twP S = e := ⟨_, rfl⟩
      rw [hP3, hR3] at hpl
      obtain ⟨S1, hS1⟩ : ∃ e, sgnI (P3 - R2) = e := ⟨_, rfl⟩
      have iS1 : S1 ≤ 0 := by rw [← hS1]; exact sgn_le0 (by omega)
      have jS1 : decide (0 < S1) = false := decide_eq_false (by omega)
      obtain ⟨S2, hS2⟩ : ∃ e, sgnI (P2 - R3) = e := ⟨_, rfl⟩
      have iS2 : S2 ≤ 0 := by rw [← hS2]; exact sgn_le0 (by omega)
      have jS2 : decide (0 < S2) = false := decide_eq_false (by omega)
      have HEU : Hid (T * 2 ^ sc (S : Int) = U) := Lib.hid (by rw [HSC.out]; exact hU9)
      have HEP3 : Hid (P1 * 2 ^ sc (S : Int) = P3) := Lib.hid (by rw [HSC.out]; exact hP3)
      have HER3 : Hid (R1 * 2 ^ sc (S : Int) = R3) := Lib.hid (by rw [HSC.out]; exact hR3)
      have HU := Lib.hid hU
      have BU : Hid (Si U 20) := Lib.hid (si1 (q := QS) (by omega) hU.1 (by omega))
      have HP1 := Lib.hid hP1
      have HR1 := Lib.hid hR1
      have HP2 := Lib.hid hP2
      have HR2 := Lib.hid hR2
      have HS1 := Lib.hid hS1
      have HS2 := Lib.hid hS2
      clear hT hU hU9 hpl hP1 hR1 hP2 hR2 hP3 hR3 hS1 hS2
      obtain ⟨q_a0, f_a0, q_a1, f_a1⟩ := x_a.al
      go_wp2_with fail
      with_reducible refine (Lsum_yes z_a k (by omega) Q N (by omega) (by omega) HT.out (by omega)).mono ?_
      rintro e v31 ⟨A10, n10, c10, A11, n11, c11, rfl, z10, z11, hb1⟩
      replace x_a := x_a.keep hb1
      replace z_a := z_a.keep hb1
      replace hb := bthen hb hb1
      clear hb1
      clear q_a0 f_a0 q_a1 f_a1; obtain ⟨q_a0, f_a0, q_a1, f_a1⟩ := x_a.al
      rw [HP1.out] at z10 ⊢
      rw [HR1.out] at z11 ⊢
      have y_a := ((x_a.alloc (.cells #[.bool (ngB P1), .slice A10 n10 c10] 24)).alloc (.cells #[.bool (ngB R1), .slice A11 n11 c11] 24)); have yq_a0 := y_a.c0; have yq_a1 := y_a.c1
      go_upto_region 10 with fail
      clear y_a yq_a0 yq_a1
      have l_a_c := x_a.lt
      have e_c : w.heap.size ≤ v31.heap.size := hb.size
      have hb1 := below_alloc2 v31 (.cells #[.bool (ngB P1), .slice A10 n10 c10] 24) (.cells #[.bool (ngB R1), .slice A11 n11 c11] 24)
      have x_c := (Bx.new v31 (ngB P1) A10 n10 c10).alloc (.cells #[.bool (ngB R1), .slice A11 n11 c11] 24)
      have x_d : Bx ((v31.alloc (.cells #[.bool (ngB P1), .slice A10 n10 c10] 24)).alloc (.cells #[.bool (ngB R1), .slice A11 n11 c11] 24)) (v31.heap.size + 1) (ngB R1) A11 n11 c11 := by have := Bx.new (v31.alloc (.cells #[.bool (ngB P1), .slice A10 n10 c10] 24)) (ngB R1) A11 n11 c11; simpa using this
      clear q_a0 f_a0 q_a1 f_a1
      replace x_a := x_a.keep hb1
      replace z_a := z_a.keep hb1
      replace z10 := z10.keep hb1
      replace z11 := z11.keep hb1
      replace hb := bthen hb hb1
      clear hb1
      generalize (v31.alloc (.cells #[.bool (ngB P1), .slice A10 n10 c10] 24)).alloc (.cells #[.bool (ngB R1), .slice A11 n11 c11] 24) = v32 at *
      obtain ⟨q_a0, f_a0, q_a1, f_a1⟩ := x_a.al
      obtain ⟨q_c0, f_c0, q_c1, f_c1⟩ := x_c.al
      obtain ⟨q_d0, f_d0, q_d1, f_d1⟩ := x_d.al
      go_wp2_with fail
      with_reducible refine (ZShl_any z_a (S : Int) 150 (by omega) (by omega)).mono ?_
      rintro e v33 ⟨A20, n20, c20, rfl, z20, hb1⟩
      replace x_a := x_a.keep hb1
      replace x_c := x_c.keep hb1
      replace x_d := x_d.keep hb1
      replace z_a := z_a.keep hb1
      replace z10 := z10.keep hb1
      replace z11 := z11.keep hb1
      replace hb := bthen hb hb1
      clear hb1
      clear q_a0 f_a0 q_a1 f_a1; obtain ⟨q_a0, f_a0, q_a1, f_a1⟩ := x_a.al
      clear q_c0 f_c0 q_c1 f_c1; obtain ⟨q_c0, f_c0, q_c1, f_c1⟩ := x_c.al
      clear q_d0 f_d0 q_d1 f_d1; obtain ⟨q_d0, f_d0, q_d1, f_d1⟩ := x_d.al
      rw [HEU.out] at z20 ⊢
      replace z20 := z20.slim BU.out
      go_wp2_with fail
      with_reducible refine (Lsum_yes z20.zr k (by omega) QS N (by omega) (by omega) HU.out (by omega)).mono ?_
      rintro e v34 ⟨A12, n12, c12, A13, n13, c13, rfl, z12, z13, hb1⟩
      replace x_a := x_a.keep hb1
      replace x_c := x_c.keep hb1
      replace x_d := x_d.keep hb1
      replace z_a := z_a.keep hb1
      replace z10 := z10.keep hb1
      replace z11 := z11.keep hb1
      replace z20 := z20.keep hb1
      replace hb := bthen hb hb1
      clear hb1
      clear q_a0 f_a0 q_a1 f_a1; obtain ⟨q_a0, f_a0, q_a1, f_a1⟩ := x_a.al
      clear q_c0 f_c0 q_c1 f_c1; obtain ⟨q_c0, f_c0, q_c1, f_c1⟩ := x_c.al
      clear q_d0 f_d0 q_d1 f_d1; obtain ⟨q_d0, f_d0, q_d1, f_d1⟩ := x_d.al
      rw [HP2.out] at z12 ⊢
      rw [HR2.out] at z13 ⊢
      have y_a := ((x_a.alloc (.cells #[.bool (ngB P2), .slice A12 n12 c12] 24)).alloc (.cells #[.bool (ngB R2), .slice A13 n13 c13] 24)); have yq_a0 := y_a.c0; have yq_a1 := y_a.c1
      have y_c := ((x_c.alloc (.cells #[.bool (ngB P2), .slice A12 n12 c12] 24)).alloc (.cells #[.bool (ngB R2), .slice A13 n13 c13] 24)); have yq_c0 := y_c.c0; have yq_c1 := y_c.c1
      have y_d := ((x_d.alloc (.cells #[.bool (ngB P2), .slice A12 n12 c12] 24)).alloc (.cells #[.bool (ngB R2), .slice A13 n13 c13] 24)); have yq_d0 := y_d.c0; have yq_d1 := y_d.c1
      go_upto_region 11 with fail
      clear y_a yq_a0 yq_a1 y_c yq_c0 yq_c1 y_d yq_d0 yq_d1
      have l_a_e := x_a.lt
      have l_c_e := x_c.lt
      have l_d_e := x_d.lt
      have e_e : w.heap.size ≤ v34.heap.size := hb.size
      have hb1 := below_alloc2 v34 (.cells #[.bool (ngB P2), .slice A12 n12 c12] 24) (.cells #[.bool (ngB R2), .slice A13 n13 c13] 24)
      have x_e := (Bx.new v34 (ngB P2) A12 n12 c12).alloc (.cells #[.bool (ngB R2), .slice A13 n13 c13] 24)
      have x_f : Bx ((v34.alloc (.cells #[.bool (ngB P2), .slice A12 n12 c12] 24)).alloc (.cells #[.bool (ngB R2), .slice A13 n13 c13] 24)) (v34.heap.size + 1) (ngB R2) A13 n13 c13 := by have := Bx.new (v34.alloc (.cells #[.bool (ngB P2), .slice A12 n12 c12] 24)) (ngB R2) A13 n13 c13; simpa using this
      clear q_a0 f_a0 q_a1 f_a1 q_c0 f_c0 q_c1 f_c1 q_d0 f_d0 q_d1 f_d1
      replace x_a := x_a.keep hb1
      replace x_c := x_c.keep hb1
      replace x_d := x_d.keep hb1
      replace z_a := z_a.keep hb1
      replace z10 := z10.keep hb1
      replace z11 := z11.keep hb1
      replace z20 := z20.keep hb1
      replace z12 := z12.keep hb1
      replace z13 := z13.keep hb1
      replace hb := bthen hb hb1
      clear hb1
      generalize (v34.alloc (.cells #[.bool (ngB P2), .slice A12 n12 c12] 24)).alloc (.cells #[.bool (ngB R2), .slice A13 n13 c13] 24) = v35 at *
      obtain ⟨q_a0, f_a0, q_a1, f_a1⟩ := x_a.al
      obtain ⟨q_c0, f_c0, q_c1, f_c1⟩ := x_c.al
      obtain ⟨q_d0, f_d0, q_d1, f_d1⟩ := x_d.al
      obtain ⟨q_e0, f_e0, q_e1, f_e1⟩ := x_e.al
      obtain ⟨q_f0, f_f0, q_f1, f_f1⟩ := x_f.al
      go_region_held3 (fun w' => w'.cell? ⟨v31.heap.size, 0, none⟩ = some (.bool (ngB P1)) ∧ w'.cell? ⟨v31.heap.size, 1, none⟩ = some (.slice A10 n10 c10) ∧ w'.cell? ⟨v31.heap.size + 1, 0, none⟩ = some (.bool (ngB R1)) ∧ w'.cell? ⟨v31.heap.size + 1, 1, none⟩ = some (.slice A11 n11 c11) ∧ w'.cell? ⟨v34.heap.size, 0, none⟩ = some (.bool (ngB P2)) ∧ w'.cell? ⟨v34.heap.size, 1, none⟩ = some (.slice A12 n12 c12) ∧ w'.cell? ⟨v34.heap.size + 1, 0, none⟩ = some (.bool (ngB R2)) ∧ w'.cell? ⟨v34.heap.size + 1, 1, none⟩ = some (.slice A13 n13 c13))
        (first | (with_reducible exact ⟨x_c.drew.c0, x_c.drew.c1, x_d.drew.c0, x_d.drew.c1, x_e.drew.c0, x_e.drew.c1, x_f.drew.c0, x_f.drew.c1⟩) | (with_reducible exact ⟨x_c.c0, x_c.c1, x_d.c0, x_d.c1, x_e.c0, x_e.c1, x_f.c0, x_f.c1⟩))
        (first | (go_at_call 11; (with_reducible refine (ZShl_any z10.drw.zr (S : Int) 160 (by omega) (by omega)).mono ?_); rintro e v36 ⟨A21, n21, c21, rfl, z21, hb1⟩; replace hb1 := undrew hb1; replace x_a := x_a.keep hb1; replace x_c := x_c.keep hb1; replace x_d := x_d.keep hb1; replace x_e := x_e.keep hb1; replace x_f := x_f.keep hb1; replace z_a := z_a.keep hb1; replace z10 := z10.keep hb1; replace z11 := z11.keep hb1; replace z20 := z20.keep hb1; replace z12 := z12.keep hb1; replace z13 := z13.keep hb1; replace hb := bthen hb hb1; clear hb1; clear q_a0 f_a0 q_a1 f_a1; obtain ⟨q_a0, f_a0, q_a1, f_a1⟩ := x_a.al; clear q_c0 f_c0 q_c1 f_c1; obtain ⟨q_c0, f_c0, q_c1, f_c1⟩ := x_c.al; clear q_d0 f_d0 q_d1 f_d1; obtain ⟨q_d0, f_d0, q_d1, f_d1⟩ := x_d.al; clear q_e0 f_e0 q_e1 f_e1; obtain ⟨q_e0, f_e0, q_e1, f_e1⟩ := x_e.al; clear q_f0 f_f0 q_f1 f_f1; obtain ⟨q_f0, f_f0, q_f1, f_f1⟩ := x_f.al; rw [HEP3.out] at z21 ⊢) | (go_at_call 10; (with_reducible refine (ZCmp_any z21.zr z13.zr (by omega) (by omega)).mono ?_); rintro e v37 ⟨rfl, hb1⟩; replace x_a := x_a.keep hb1; replace x_c := x_c.keep hb1; replace x_d := x_d.keep hb1; replace x_e := x_e.keep hb1; replace x_f := x_f.keep hb1; replace z_a := z_a.keep hb1; replace z10 := z10.keep hb1; replace z11 := z11.keep hb1; replace z20 := z20.keep hb1; replace z12 := z12.keep hb1; replace z13 := z13.keep hb1; replace z21 := z21.keep hb1; replace hb := bthen hb hb1; clear hb1; clear q_a0 f_a0 q_a1 f_a1; obtain ⟨q_a0, f_a0, q_a1, f_a1⟩ := x_a.al; clear q_c0 f_c0 q_c1 f_c1; obtain ⟨q_c0, f_c0, q_c1, f_c1⟩ := x_c.al; clear q_d0 f_d0 q_d1 f_d1; obtain ⟨q_d0, f_d0, q_d1, f_d1⟩ := x_d.al; clear q_e0 f_e0 q_e1 f_e1; obtain ⟨q_e0, f_e0, q_e1, f_e1⟩ := x_e.al; clear q_f0 f_f0 q_f1 f_f1; obtain ⟨q_f0, f_f0, q_f1, f_f1⟩ := x_f.al; rw [HS1.out]) | (go_at_call 11; (with_reducible refine (ZShl_any z11.zr (S : Int) 160 (by omega) (by omega)).mono ?_); rintro e v38 ⟨A22, n22, c22, rfl, z22, hb1⟩; replace x_a := x_a.keep hb1; replace x_c := x_c.keep hb1; replace x_d := x_d.keep hb1; replace x_e := x_e.keep hb1; replace x_f := x_f.keep hb1; replace z_a := z_a.keep hb1; replace z10 := z10.keep hb1; replace z11 := z11.keep hb1; replace z20 := z20.keep hb1; replace z12 := z12.keep hb1; replace z13 := z13.keep hb1; replace z21 := z21.keep hb1; replace hb := bthen hb hb1; clear hb1; clear q_a0 f_a0 q_a1 f_a1; obtain ⟨q_a0, f_a0, q_a1, f_a1⟩ := x_a.al; clear q_c0 f_c0 q_c1 f_c1; obtain ⟨q_c0, f_c0, q_c1, f_c1⟩ := x_c.al; clear q_d0 f_d0 q_d1 f_d1; obtain ⟨q_d0, f_d0, q_d1, f_d1⟩ := x_d.al; clear q_e0 f_e0 q_e1 f_e1; obtain ⟨q_e0, f_e0, q_e1, f_e1⟩ := x_e.al; clear q_f0 f_f0 q_f1 f_f1; obtain ⟨q_f0, f_f0, q_f1, f_f1⟩ := x_f.al; rw [HER3.out] at z22 ⊢) | (go_at_call 10; (with_reducible refine (ZCmp_any z12.zr z22.zr (by omega) (by omega)).mono ?_); rintro e v39 ⟨rfl, hb1⟩; replace x_a := x_a.keep hb1; replace x_c := x_c.keep hb1; replace x_d := x_d.keep hb1; replace x_e := x_e.keep hb1; replace x_f := x_f.keep hb1; replace z_a := z_a.keep hb1; replace z10 := z10.keep hb1; replace z11 := z11.keep hb1; replace z20 := z20.keep hb1; replace z12 := z12.keep hb1; replace z13 := z13.keep hb1; replace z21 := z21.keep hb1; replace z22 := z22.keep hb1; replace hb := bthen hb hb1; clear hb1; clear q_a0 f_a0 q_a1 f_a1; obtain ⟨q_a0, f_a0, q_a1, f_a1⟩ := x_a.al; clear q_c0 f_c0 q_c1 f_c1; obtain ⟨q_c0, f_c0, q_c1, f_c1⟩ := x_c.al; clear q_d0 f_d0 q_d1 f_d1; obtain ⟨q_d0, f_d0, q_d1, f_d1⟩ := x_d.al; clear q_e0 f_e0 q_e1 f_e1; obtain ⟨q_e0, f_e0, q_e1, f_e1⟩ := x_e.al; clear q_f0 f_f0 q_f1 f_f1; obtain ⟨q_f0, f_f0, q_f1, f_f1⟩ := x_f.al; rw [HS2.out]))
      go_wp2_with fail
      go_roundw
      case rel => exact ⟨k + 1, by omega, by go_num, hb, x_a, z_a⟩
      case measure => simp [intOf]; omega

end Go.Proofs.Ythlpdljkclngdaa
