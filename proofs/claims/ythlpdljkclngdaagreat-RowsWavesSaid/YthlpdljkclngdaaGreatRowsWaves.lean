/-
  The law RowsWaves, as a call.
-/
import Derived.Test.YthlpdljkclngdaaGreatKwav
namespace Go.Proofs.YthlpdljkclngdaaGreat
open Go.RowKit
set_option linter.unusedVariables false

set_option maxRecDepth 100000 in
set_option maxHeartbeats 32000000 in
theorem RowsWaves_any {b : Bool} {A : Option Addr} {n c : Nat} {l : List Int} {q n1 : Int} {w : World} (h : Rd w w.heap.size A n c l) (hq : -9223372036854775808 ≤ q ∧ q ≤ 9223372036854775807) (hn1 : -9223372036854775808 ≤ n1 ∧ n1 ≤ 9223372036854775807) :
    Calls Tryz.prog 5 #[.agg #[.bool b, .slice A n c], .int .i64 q, .int .i64 n1] w fun e w' => e = .returned (.bool true) ∧ Below w.heap.size w w' := by
  go_enter Tryz.func5, Tryz.ntmps5
  go_upto_region 1 with fail
  have x_a : Bx (w.alloc (.cells #[.bool b, .slice A n c] 24)) (w.heap.size) b A n c := by have := Bx.new w b A n c; simpa using this
  have hb : Below w.heap.size w (w.alloc (.cells #[.bool b, .slice A n c] 24)) := (Below.alloc (Below.refl w.heap.size w) (by simp) (.cells #[.bool b, .slice A n c] 24))
  generalize w.alloc (.cells #[.bool b, .slice A n c] 24) = v1 at *
  replace h := h.go hb
  obtain ⟨q_a0, f_a0, q_a1, f_a1⟩ := x_a.al
  go_wp2_with fail
  with_reducible refine (Kshown_any _).mono ?_
  rintro e v2 ⟨rfl, hb1⟩
  replace x_a := x_a.keep hb1
  replace h := h.go hb1
  replace hb := bthen hb hb1
  clear hb1
  clear q_a0 f_a0 q_a1 f_a1; obtain ⟨q_a0, f_a0, q_a1, f_a1⟩ := x_a.al
  go_wp2_with fail
  with_reducible refine (Zcut_at h 20 20 rfl (by omega)).mono ?_
  rintro e v3 ⟨Au, nu, cu, rfl, p_, k_, hb1⟩
  replace x_a := x_a.keep hb1
  replace h := h.go hb1
  replace hb := bthen hb hb1
  clear hb1
  clear q_a0 f_a0 q_a1 f_a1; obtain ⟨q_a0, f_a0, q_a1, f_a1⟩ := x_a.al
  obtain ⟨T, zu⟩ : ∃ X, Zr _ b Au nu cu X 20 := ⟨_, _, p_, rfl, k_⟩
  clear p_ k_
  clear h
  go_upto_region 3 with fail
  replace zu := zu.put (b' := b) (A' := Au) (n' := nu) (c' := cu) x_a
  replace hb := put_below (g := w.heap.size) hb (by omega) (.bool b) (.slice Au nu cu)
  replace x_a := x_a.put b Au nu cu
  clear q_a0 f_a0 q_a1 f_a1
  generalize (v3.setCell ⟨w.heap.size, 0, none⟩ (.bool b)).setCell ⟨w.heap.size, 1, none⟩ (.slice Au nu cu) = v4 at *
  obtain ⟨q_a0, f_a0, q_a1, f_a1⟩ := x_a.al
  go_wp2_with fail
  with_reducible refine (Few_any q n1 _).mono ?_
  rintro e v5 ⟨rfl, hb1⟩
  replace x_a := x_a.keep hb1
  replace zu := zu.keep hb1
  replace hb := bthen hb hb1
  clear hb1
  clear q_a0 f_a0 q_a1 f_a1; obtain ⟨q_a0, f_a0, q_a1, f_a1⟩ := x_a.al
  obtain ⟨N, hN⟩ : ∃ N, fewI q n1 = N := ⟨_, rfl⟩
  rw [hN]
  clear hN
  go_upto_region 4 with fail
  obtain ⟨P0, hP0⟩ : ∃ e, fvP 3 T q N = e := ⟨_, rfl⟩
  have HP0 := Lib.hid hP0; clear hP0
  obtain ⟨R0, hR0⟩ : ∃ e, fvR 3 T q N = e := ⟨_, rfl⟩
  have HR0 := Lib.hid hR0; clear hR0
  obtain ⟨x0, hx0⟩ : ∃ e, fvX 3 T q N = e := ⟨_, rfl⟩
  have Hx0 := Lib.hid hx0; clear hx0
  go_wp2_with fail
  with_reducible refine (KSin_fv zu q N (by omega)).mono ?_
  rintro e v6 ⟨A10, n10, c10, A11, n11, c11, rfl, z10, z11, hb1⟩
  replace x_a := x_a.keep hb1
  replace zu := zu.keep hb1
  replace hb := bthen hb hb1
  clear hb1
  clear q_a0 f_a0 q_a1 f_a1; obtain ⟨q_a0, f_a0, q_a1, f_a1⟩ := x_a.al
  rw [HP0.out] at z10 ⊢; rw [HR0.out] at z11 ⊢; rw [Hx0.out]
  have y_a := ((x_a.alloc (.cells #[.bool (ngB P0), .slice A10 n10 c10] 24)).alloc (.cells #[.bool (ngB R0), .slice A11 n11 c11] 24)); have yq_a0 := y_a.c0; have yq_a1 := y_a.c1
  go_upto_region 5 with fail
  clear y_a yq_a0 yq_a1
  have l_a_c := x_a.lt
  have e_c : w.heap.size ≤ v6.heap.size := hb.size
  have hb1 := below_alloc2 v6 (.cells #[.bool (ngB P0), .slice A10 n10 c10] 24) (.cells #[.bool (ngB R0), .slice A11 n11 c11] 24)
  have x_c := (Bx.new v6 (ngB P0) A10 n10 c10).alloc (.cells #[.bool (ngB R0), .slice A11 n11 c11] 24)
  have x_d : Bx ((v6.alloc (.cells #[.bool (ngB P0), .slice A10 n10 c10] 24)).alloc (.cells #[.bool (ngB R0), .slice A11 n11 c11] 24)) (v6.heap.size + 1) (ngB R0) A11 n11 c11 := by have := Bx.new (v6.alloc (.cells #[.bool (ngB P0), .slice A10 n10 c10] 24)) (ngB R0) A11 n11 c11; simpa using this
  clear q_a0 f_a0 q_a1 f_a1
  replace x_a := x_a.keep hb1
  replace zu := zu.keep hb1
  replace z10 := z10.keep hb1
  replace z11 := z11.keep hb1
  replace hb := bthen hb hb1
  clear hb1
  generalize (v6.alloc (.cells #[.bool (ngB P0), .slice A10 n10 c10] 24)).alloc (.cells #[.bool (ngB R0), .slice A11 n11 c11] 24) = v7 at *
  obtain ⟨q_a0, f_a0, q_a1, f_a1⟩ := x_a.al
  obtain ⟨q_c0, f_c0, q_c1, f_c1⟩ := x_c.al
  obtain ⟨q_d0, f_d0, q_d1, f_d1⟩ := x_d.al
  go_wp2_with fail
  with_reducible refine (RSin_fv zu q N (by omega)).mono ?_
  rintro e v8 ⟨A12, n12, c12, A13, n13, c13, rfl, z12, z13, hb1⟩
  replace x_a := x_a.keep hb1
  replace x_c := x_c.keep hb1
  replace x_d := x_d.keep hb1
  replace zu := zu.keep hb1
  replace z10 := z10.keep hb1
  replace z11 := z11.keep hb1
  replace hb := bthen hb hb1
  clear hb1
  clear q_a0 f_a0 q_a1 f_a1; obtain ⟨q_a0, f_a0, q_a1, f_a1⟩ := x_a.al
  clear q_c0 f_c0 q_c1 f_c1; obtain ⟨q_c0, f_c0, q_c1, f_c1⟩ := x_c.al
  clear q_d0 f_d0 q_d1 f_d1; obtain ⟨q_d0, f_d0, q_d1, f_d1⟩ := x_d.al
  rw [HP0.out] at z12 ⊢; rw [HR0.out] at z13 ⊢; rw [Hx0.out]
  have y_a := ((x_a.alloc (.cells #[.bool (ngB P0), .slice A12 n12 c12] 24)).alloc (.cells #[.bool (ngB R0), .slice A13 n13 c13] 24)); have yq_a0 := y_a.c0; have yq_a1 := y_a.c1
  have y_c := ((x_c.alloc (.cells #[.bool (ngB P0), .slice A12 n12 c12] 24)).alloc (.cells #[.bool (ngB R0), .slice A13 n13 c13] 24)); have yq_c0 := y_c.c0; have yq_c1 := y_c.c1
  have y_d := ((x_d.alloc (.cells #[.bool (ngB P0), .slice A12 n12 c12] 24)).alloc (.cells #[.bool (ngB R0), .slice A13 n13 c13] 24)); have yq_d0 := y_d.c0; have yq_d1 := y_d.c1
  go_upto_region 6 with fail
  clear y_a yq_a0 yq_a1 y_c yq_c0 yq_c1 y_d yq_d0 yq_d1
  have l_a_e := x_a.lt
  have l_c_e := x_c.lt
  have l_d_e := x_d.lt
  have e_e : w.heap.size ≤ v8.heap.size := hb.size
  have hb1 := below_alloc2 v8 (.cells #[.bool (ngB P0), .slice A12 n12 c12] 24) (.cells #[.bool (ngB R0), .slice A13 n13 c13] 24)
  have x_e := (Bx.new v8 (ngB P0) A12 n12 c12).alloc (.cells #[.bool (ngB R0), .slice A13 n13 c13] 24)
  have x_f : Bx ((v8.alloc (.cells #[.bool (ngB P0), .slice A12 n12 c12] 24)).alloc (.cells #[.bool (ngB R0), .slice A13 n13 c13] 24)) (v8.heap.size + 1) (ngB R0) A13 n13 c13 := by have := Bx.new (v8.alloc (.cells #[.bool (ngB P0), .slice A12 n12 c12] 24)) (ngB R0) A13 n13 c13; simpa using this
  clear q_a0 f_a0 q_a1 f_a1 q_c0 f_c0 q_c1 f_c1 q_d0 f_d0 q_d1 f_d1
  replace x_a := x_a.keep hb1
  replace x_c := x_c.keep hb1
  replace x_d := x_d.keep hb1
  replace zu := zu.keep hb1
  replace z10 := z10.keep hb1
  replace z11 := z11.keep hb1
  replace z12 := z12.keep hb1
  replace z13 := z13.keep hb1
  replace hb := bthen hb hb1
  clear hb1
  generalize (v8.alloc (.cells #[.bool (ngB P0), .slice A12 n12 c12] 24)).alloc (.cells #[.bool (ngB R0), .slice A13 n13 c13] 24) = v9 at *
  obtain ⟨q_a0, f_a0, q_a1, f_a1⟩ := x_a.al
  obtain ⟨q_c0, f_c0, q_c1, f_c1⟩ := x_c.al
  obtain ⟨q_d0, f_d0, q_d1, f_d1⟩ := x_d.al
  obtain ⟨q_e0, f_e0, q_e1, f_e1⟩ := x_e.al
  obtain ⟨q_f0, f_f0, q_f1, f_f1⟩ := x_f.al
  go_wp2_with fail
  with_reducible refine (Equal6_any z10 z12 z11 z13 x0).mono ?_
  rintro e v10 ⟨rfl, hb1⟩
  replace x_a := x_a.keep hb1
  replace x_c := x_c.keep hb1
  replace x_d := x_d.keep hb1
  replace x_e := x_e.keep hb1
  replace x_f := x_f.keep hb1
  replace zu := zu.keep hb1
  replace z10 := z10.keep hb1
  replace z11 := z11.keep hb1
  replace z12 := z12.keep hb1
  replace z13 := z13.keep hb1
  replace hb := bthen hb hb1
  clear hb1
  clear q_a0 f_a0 q_a1 f_a1; obtain ⟨q_a0, f_a0, q_a1, f_a1⟩ := x_a.al
  clear q_c0 f_c0 q_c1 f_c1; obtain ⟨q_c0, f_c0, q_c1, f_c1⟩ := x_c.al
  clear q_d0 f_d0 q_d1 f_d1; obtain ⟨q_d0, f_d0, q_d1, f_d1⟩ := x_d.al
  clear q_e0 f_e0 q_e1 f_e1; obtain ⟨q_e0, f_e0, q_e1, f_e1⟩ := x_e.al
  clear q_f0 f_f0 q_f1 f_f1; obtain ⟨q_f0, f_f0, q_f1, f_f1⟩ := x_f.al
  go_upto_region 7 with fail
  clear z10 z11 z12 z13
  obtain ⟨P1, hP1⟩ : ∃ e, fvP 4 T q N = e := ⟨_, rfl⟩
  have HP1 := Lib.hid hP1; clear hP1
  obtain ⟨R1, hR1⟩ : ∃ e, fvR 4 T q N = e := ⟨_, rfl⟩
  have HR1 := Lib.hid hR1; clear hR1
  obtain ⟨x1, hx1⟩ : ∃ e, fvX 4 T q N = e := ⟨_, rfl⟩
  have Hx1 := Lib.hid hx1; clear hx1
  go_wp2_with fail
  with_reducible refine (KCos_fv zu q N (by omega)).mono ?_
  rintro e v11 ⟨A14, n14, c14, A15, n15, c15, rfl, z14, z15, hb1⟩
  replace x_a := x_a.keep hb1
  replace x_c := x_c.keep hb1
  replace x_d := x_d.keep hb1
  replace x_e := x_e.keep hb1
  replace x_f := x_f.keep hb1
  replace zu := zu.keep hb1
  replace hb := bthen hb hb1
  clear hb1
  clear q_a0 f_a0 q_a1 f_a1; obtain ⟨q_a0, f_a0, q_a1, f_a1⟩ := x_a.al
  clear q_c0 f_c0 q_c1 f_c1; obtain ⟨q_c0, f_c0, q_c1, f_c1⟩ := x_c.al
  clear q_d0 f_d0 q_d1 f_d1; obtain ⟨q_d0, f_d0, q_d1, f_d1⟩ := x_d.al
  clear q_e0 f_e0 q_e1 f_e1; obtain ⟨q_e0, f_e0, q_e1, f_e1⟩ := x_e.al
  clear q_f0 f_f0 q_f1 f_f1; obtain ⟨q_f0, f_f0, q_f1, f_f1⟩ := x_f.al
  rw [HP1.out] at z14 ⊢; rw [HR1.out] at z15 ⊢; rw [Hx1.out]
  go_upto_region 8 with fail
  replace x_a := x_a.aside (b' := (ngB P1)) (A' := A14) (n' := n14) (c' := c14) (g := v6.heap.size) (by omega)
  replace x_d := x_d.aside (b' := (ngB P1)) (A' := A14) (n' := n14) (c' := c14) (g := v6.heap.size) (by omega)
  replace x_e := x_e.aside (b' := (ngB P1)) (A' := A14) (n' := n14) (c' := c14) (g := v6.heap.size) (by omega)
  replace x_f := x_f.aside (b' := (ngB P1)) (A' := A14) (n' := n14) (c' := c14) (g := v6.heap.size) (by omega)
  replace zu := zu.put (b' := (ngB P1)) (A' := A14) (n' := n14) (c' := c14) x_c
  replace z14 := z14.put (b' := (ngB P1)) (A' := A14) (n' := n14) (c' := c14) x_c
  replace z15 := z15.put (b' := (ngB P1)) (A' := A14) (n' := n14) (c' := c14) x_c
  replace hb := put_below (g := v6.heap.size) hb (by omega) (.bool (ngB P1)) (.slice A14 n14 c14)
  replace x_c := x_c.put (ngB P1) A14 n14 c14
  clear q_a0 f_a0 q_a1 f_a1 q_c0 f_c0 q_c1 f_c1 q_d0 f_d0 q_d1 f_d1 q_e0 f_e0 q_e1 f_e1 q_f0 f_f0 q_f1 f_f1
  generalize (v11.setCell ⟨v6.heap.size, 0, none⟩ (.bool (ngB P1))).setCell ⟨v6.heap.size, 1, none⟩ (.slice A14 n14 c14) = v12 at *
  obtain ⟨q_a0, f_a0, q_a1, f_a1⟩ := x_a.al
  obtain ⟨q_c0, f_c0, q_c1, f_c1⟩ := x_c.al
  obtain ⟨q_d0, f_d0, q_d1, f_d1⟩ := x_d.al
  obtain ⟨q_e0, f_e0, q_e1, f_e1⟩ := x_e.al
  obtain ⟨q_f0, f_f0, q_f1, f_f1⟩ := x_f.al
  replace x_a := x_a.aside (b' := (ngB R1)) (A' := A15) (n' := n15) (c' := c15) (g := v6.heap.size + 1) (by omega)
  replace x_c := x_c.aside (b' := (ngB R1)) (A' := A15) (n' := n15) (c' := c15) (g := v6.heap.size + 1) (by omega)
  replace x_e := x_e.aside (b' := (ngB R1)) (A' := A15) (n' := n15) (c' := c15) (g := v6.heap.size + 1) (by omega)
  replace x_f := x_f.aside (b' := (ngB R1)) (A' := A15) (n' := n15) (c' := c15) (g := v6.heap.size + 1) (by omega)
  replace zu := zu.put (b' := (ngB R1)) (A' := A15) (n' := n15) (c' := c15) x_d
  replace z14 := z14.put (b' := (ngB R1)) (A' := A15) (n' := n15) (c' := c15) x_d
  replace z15 := z15.put (b' := (ngB R1)) (A' := A15) (n' := n15) (c' := c15) x_d
  replace hb := put_below (g := v6.heap.size + 1) hb (by omega) (.bool (ngB R1)) (.slice A15 n15 c15)
  replace x_d := x_d.put (ngB R1) A15 n15 c15
  clear q_a0 f_a0 q_a1 f_a1 q_c0 f_c0 q_c1 f_c1 q_d0 f_d0 q_d1 f_d1 q_e0 f_e0 q_e1 f_e1 q_f0 f_f0 q_f1 f_f1
  generalize (v12.setCell ⟨v6.heap.size + 1, 0, none⟩ (.bool (ngB R1))).setCell ⟨v6.heap.size + 1, 1, none⟩ (.slice A15 n15 c15) = v13 at *
  obtain ⟨q_a0, f_a0, q_a1, f_a1⟩ := x_a.al
  obtain ⟨q_c0, f_c0, q_c1, f_c1⟩ := x_c.al
  obtain ⟨q_d0, f_d0, q_d1, f_d1⟩ := x_d.al
  obtain ⟨q_e0, f_e0, q_e1, f_e1⟩ := x_e.al
  obtain ⟨q_f0, f_f0, q_f1, f_f1⟩ := x_f.al
  go_wp2_with fail
  with_reducible refine (RCos_fv zu q N (by omega)).mono ?_
  rintro e v14 ⟨A16, n16, c16, A17, n17, c17, rfl, z16, z17, hb1⟩
  replace x_a := x_a.keep hb1
  replace x_c := x_c.keep hb1
  replace x_d := x_d.keep hb1
  replace x_e := x_e.keep hb1
  replace x_f := x_f.keep hb1
  replace zu := zu.keep hb1
  replace z14 := z14.keep hb1
  replace z15 := z15.keep hb1
  replace hb := bthen hb hb1
  clear hb1
  clear q_a0 f_a0 q_a1 f_a1; obtain ⟨q_a0, f_a0, q_a1, f_a1⟩ := x_a.al
  clear q_c0 f_c0 q_c1 f_c1; obtain ⟨q_c0, f_c0, q_c1, f_c1⟩ := x_c.al
  clear q_d0 f_d0 q_d1 f_d1; obtain ⟨q_d0, f_d0, q_d1, f_d1⟩ := x_d.al
  clear q_e0 f_e0 q_e1 f_e1; obtain ⟨q_e0, f_e0, q_e1, f_e1⟩ := x_e.al
  clear q_f0 f_f0 q_f1 f_f1; obtain ⟨q_f0, f_f0, q_f1, f_f1⟩ := x_f.al
  rw [HP1.out] at z16 ⊢; rw [HR1.out] at z17 ⊢; rw [Hx1.out]
  go_upto_region 9 with fail
  replace x_a := x_a.aside (b' := (ngB P1)) (A' := A16) (n' := n16) (c' := c16) (g := v8.heap.size) (by omega)
  replace x_c := x_c.aside (b' := (ngB P1)) (A' := A16) (n' := n16) (c' := c16) (g := v8.heap.size) (by omega)
  replace x_d := x_d.aside (b' := (ngB P1)) (A' := A16) (n' := n16) (c' := c16) (g := v8.heap.size) (by omega)
  replace x_f := x_f.aside (b' := (ngB P1)) (A' := A16) (n' := n16) (c' := c16) (g := v8.heap.size) (by omega)
  replace zu := zu.put (b' := (ngB P1)) (A' := A16) (n' := n16) (c' := c16) x_e
  replace z14 := z14.put (b' := (ngB P1)) (A' := A16) (n' := n16) (c' := c16) x_e
  replace z15 := z15.put (b' := (ngB P1)) (A' := A16) (n' := n16) (c' := c16) x_e
  replace z16 := z16.put (b' := (ngB P1)) (A' := A16) (n' := n16) (c' := c16) x_e
  replace z17 := z17.put (b' := (ngB P1)) (A' := A16) (n' := n16) (c' := c16) x_e
  replace hb := put_below (g := v8.heap.size) hb (by omega) (.bool (ngB P1)) (.slice A16 n16 c16)
  replace x_e := x_e.put (ngB P1) A16 n16 c16
  clear q_a0 f_a0 q_a1 f_a1 q_c0 f_c0 q_c1 f_c1 q_d0 f_d0 q_d1 f_d1 q_e0 f_e0 q_e1 f_e1 q_f0 f_f0 q_f1 f_f1
  generalize (v14.setCell ⟨v8.heap.size, 0, none⟩ (.bool (ngB P1))).setCell ⟨v8.heap.size, 1, none⟩ (.slice A16 n16 c16) = v15 at *
  obtain ⟨q_a0, f_a0, q_a1, f_a1⟩ := x_a.al
  obtain ⟨q_c0, f_c0, q_c1, f_c1⟩ := x_c.al
  obtain ⟨q_d0, f_d0, q_d1, f_d1⟩ := x_d.al
  obtain ⟨q_e0, f_e0, q_e1, f_e1⟩ := x_e.al
  obtain ⟨q_f0, f_f0, q_f1, f_f1⟩ := x_f.al
  replace x_a := x_a.aside (b' := (ngB R1)) (A' := A17) (n' := n17) (c' := c17) (g := v8.heap.size + 1) (by omega)
  replace x_c := x_c.aside (b' := (ngB R1)) (A' := A17) (n' := n17) (c' := c17) (g := v8.heap.size + 1) (by omega)
  replace x_d := x_d.aside (b' := (ngB R1)) (A' := A17) (n' := n17) (c' := c17) (g := v8.heap.size + 1) (by omega)
  replace x_e := x_e.aside (b' := (ngB R1)) (A' := A17) (n' := n17) (c' := c17) (g := v8.heap.size + 1) (by omega)
  replace zu := zu.put (b' := (ngB R1)) (A' := A17) (n' := n17) (c' := c17) x_f
  replace z14 := z14.put (b' := (ngB R1)) (A' := A17) (n' := n17) (c' := c17) x_f
  replace z15 := z15.put (b' := (ngB R1)) (A' := A17) (n' := n17) (c' := c17) x_f
  replace z16 := z16.put (b' := (ngB R1)) (A' := A17) (n' := n17) (c' := c17) x_f
  replace z17 := z17.put (b' := (ngB R1)) (A' := A17) (n' := n17) (c' := c17) x_f
  replace hb := put_below (g := v8.heap.size + 1) hb (by omega) (.bool (ngB R1)) (.slice A17 n17 c17)
  replace x_f := x_f.put (ngB R1) A17 n17 c17
  clear q_a0 f_a0 q_a1 f_a1 q_c0 f_c0 q_c1 f_c1 q_d0 f_d0 q_d1 f_d1 q_e0 f_e0 q_e1 f_e1 q_f0 f_f0 q_f1 f_f1
  generalize (v15.setCell ⟨v8.heap.size + 1, 0, none⟩ (.bool (ngB R1))).setCell ⟨v8.heap.size + 1, 1, none⟩ (.slice A17 n17 c17) = v16 at *
  obtain ⟨q_a0, f_a0, q_a1, f_a1⟩ := x_a.al
  obtain ⟨q_c0, f_c0, q_c1, f_c1⟩ := x_c.al
  obtain ⟨q_d0, f_d0, q_d1, f_d1⟩ := x_d.al
  obtain ⟨q_e0, f_e0, q_e1, f_e1⟩ := x_e.al
  obtain ⟨q_f0, f_f0, q_f1, f_f1⟩ := x_f.al
  go_wp2_with fail
  with_reducible refine (Equal6_any z14 z16 z15 z17 x1).mono ?_
  rintro e v17 ⟨rfl, hb1⟩
  replace x_a := x_a.keep hb1
  replace x_c := x_c.keep hb1
  replace x_d := x_d.keep hb1
  replace x_e := x_e.keep hb1
  replace x_f := x_f.keep hb1
  replace zu := zu.keep hb1
  replace z14 := z14.keep hb1
  replace z15 := z15.keep hb1
  replace z16 := z16.keep hb1
  replace z17 := z17.keep hb1
  replace hb := bthen hb hb1
  clear hb1
  clear q_a0 f_a0 q_a1 f_a1; obtain ⟨q_a0, f_a0, q_a1, f_a1⟩ := x_a.al
  clear q_c0 f_c0 q_c1 f_c1; obtain ⟨q_c0, f_c0, q_c1, f_c1⟩ := x_c.al
  clear q_d0 f_d0 q_d1 f_d1; obtain ⟨q_d0, f_d0, q_d1, f_d1⟩ := x_d.al
  clear q_e0 f_e0 q_e1 f_e1; obtain ⟨q_e0, f_e0, q_e1, f_e1⟩ := x_e.al
  clear q_f0 f_f0 q_f1 f_f1; obtain ⟨q_f0, f_f0, q_f1, f_f1⟩ := x_f.al
  go_wp2
  go_ret
  exact ⟨rfl, hb⟩

end Go.Proofs.YthlpdljkclngdaaGreat
