/-
  the laws of rows: shown.
-/
import Derived.Test.YthlpdljkclngdaaGreatKshow
import Derived.Test.YthlpdljkclngdaaGreatPd
namespace Go.Proofs.YthlpdljkclngdaaGreat
open Go.RowKit
set_option linter.unusedVariables false

set_option maxRecDepth 100000 in
set_option maxHeartbeats 8000000 in
theorem Kshown_any (w : World) :
    Calls Tryz.prog 6 #[] w fun e w' => e = .returned (.bool true) ∧ Below w.heap.size w w' := by
  have hb := Below.refl w.heap.size w
  go_enter Tryz.func6, Tryz.ntmps6
  go_wp2_with fail
  with_reducible refine (ZOf_any (16) (by omega) (by omega)).mono ?_
  rintro e v2 ⟨A1, n1, c1, rfl, za, hb1⟩
  replace hb := bthen hb hb1
  clear hb1
  go_wp2_with fail
  with_reducible refine (KExp_is za.zr (4) (3) (by omega)).mono ?_
  rintro e v4 ⟨P3, R3, x3, ⟨A53, n53, c53, A63, n63, c63, rfl, z53, z63, hb1⟩, hc⟩
  replace za := za.keep hb1
  replace hb := bthen hb hb1
  clear hb1
  rcases hc with ⟨_, rfl, rfl, rfl⟩ | ⟨hno, _⟩
  rotate_left
  · exact absurd hno (by decide)
  rw [show rwLo 0 16 (4 : Int).toNat (3 : Int).toNat = 40 from by decide] at z53 ⊢
  rw [show rwHi 0 16 (4 : Int).toNat (3 : Int).toNat = 46 from by decide] at z63 ⊢
  go_upto_region 2 with fail
  have e_a : w.heap.size ≤ v4.heap.size := hb.size
  have hb1 := below_alloc2 v4 (.cells #[.bool (ngB (40)), .slice A53 n53 c53] 24) (.cells #[.bool (ngB (46)), .slice A63 n63 c63] 24)
  have x_a := (Bx.new v4 (ngB (40)) A53 n53 c53).alloc (.cells #[.bool (ngB (46)), .slice A63 n63 c63] 24)
  have x_b : Bx ((v4.alloc (.cells #[.bool (ngB (40)), .slice A53 n53 c53] 24)).alloc (.cells #[.bool (ngB (46)), .slice A63 n63 c63] 24)) (v4.heap.size + 1) (ngB (46)) A63 n63 c63 := by have := Bx.new (v4.alloc (.cells #[.bool (ngB (40)), .slice A53 n53 c53] 24)) (ngB (46)) A63 n63 c63; simpa using this
  replace za := za.keep hb1
  replace z53 := z53.keep hb1
  replace z63 := z63.keep hb1
  replace hb := bthen hb hb1
  clear hb1
  generalize (v4.alloc (.cells #[.bool (ngB (40)), .slice A53 n53 c53] 24)).alloc (.cells #[.bool (ngB (46)), .slice A63 n63 c63] 24) = v5 at *
  obtain ⟨q_a0, f_a0, q_a1, f_a1⟩ := x_a.al
  obtain ⟨q_b0, f_b0, q_b1, f_b1⟩ := x_b.al
  clear za
  go_wp2_with fail
  with_reducible refine (KCos_is (Zr.nul _) (3) (1) (by omega)).mono ?_
  rintro e v7 ⟨P6, R6, x6, ⟨A56, n56, c56, A66, n66, c66, rfl, z56, z66, hb1⟩, hc⟩
  replace x_a := x_a.keep hb1
  replace x_b := x_b.keep hb1
  replace z53 := z53.keep hb1
  replace z63 := z63.keep hb1
  replace hb := bthen hb hb1
  clear hb1
  clear q_a0 f_a0 q_a1 f_a1; obtain ⟨q_a0, f_a0, q_a1, f_a1⟩ := x_a.al
  clear q_b0 f_b0 q_b1 f_b1; obtain ⟨q_b0, f_b0, q_b1, f_b1⟩ := x_b.al
  rcases hc with ⟨_, rfl, rfl, rfl⟩ | ⟨hno, _⟩
  rotate_left
  · exact absurd hno (by decide)
  rw [show rwLo 4 0 (3 : Int).toNat (1 : Int).toNat = 8 from by decide] at z56 ⊢
  rw [show rwHi 4 0 (3 : Int).toNat (1 : Int).toNat = 8 from by decide] at z66 ⊢
  have y_a := ((x_a.alloc (.cells #[.bool (ngB (8)), .slice A56 n56 c56] 24)).alloc (.cells #[.bool (ngB (8)), .slice A66 n66 c66] 24)); have yq_a0 := y_a.c0; have yq_a1 := y_a.c1
  have y_b := ((x_b.alloc (.cells #[.bool (ngB (8)), .slice A56 n56 c56] 24)).alloc (.cells #[.bool (ngB (8)), .slice A66 n66 c66] 24)); have yq_b0 := y_b.c0; have yq_b1 := y_b.c1
  go_upto_region 3 with fail
  clear y_a yq_a0 yq_a1 y_b yq_b0 yq_b1
  have l_a_c := x_a.lt
  have l_b_c := x_b.lt
  have e_c : w.heap.size ≤ v7.heap.size := hb.size
  have hb1 := below_alloc2 v7 (.cells #[.bool (ngB (8)), .slice A56 n56 c56] 24) (.cells #[.bool (ngB (8)), .slice A66 n66 c66] 24)
  have x_c := (Bx.new v7 (ngB (8)) A56 n56 c56).alloc (.cells #[.bool (ngB (8)), .slice A66 n66 c66] 24)
  have x_d : Bx ((v7.alloc (.cells #[.bool (ngB (8)), .slice A56 n56 c56] 24)).alloc (.cells #[.bool (ngB (8)), .slice A66 n66 c66] 24)) (v7.heap.size + 1) (ngB (8)) A66 n66 c66 := by have := Bx.new (v7.alloc (.cells #[.bool (ngB (8)), .slice A56 n56 c56] 24)) (ngB (8)) A66 n66 c66; simpa using this
  clear q_a0 f_a0 q_a1 f_a1 q_b0 f_b0 q_b1 f_b1
  replace x_a := x_a.keep hb1
  replace x_b := x_b.keep hb1
  replace z53 := z53.keep hb1
  replace z63 := z63.keep hb1
  replace z56 := z56.keep hb1
  replace z66 := z66.keep hb1
  replace hb := bthen hb hb1
  clear hb1
  generalize (v7.alloc (.cells #[.bool (ngB (8)), .slice A56 n56 c56] 24)).alloc (.cells #[.bool (ngB (8)), .slice A66 n66 c66] 24) = v8 at *
  obtain ⟨q_a0, f_a0, q_a1, f_a1⟩ := x_a.al
  obtain ⟨q_b0, f_b0, q_b1, f_b1⟩ := x_b.al
  obtain ⟨q_c0, f_c0, q_c1, f_c1⟩ := x_c.al
  obtain ⟨q_d0, f_d0, q_d1, f_d1⟩ := x_d.al
  go_wp2_with fail
  with_reducible refine (KSin_is (Zr.nul _) (3) (1) (by omega)).mono ?_
  rintro e v10 ⟨P9, R9, x9, ⟨A59, n59, c59, A69, n69, c69, rfl, z59, z69, hb1⟩, hc⟩
  replace x_a := x_a.keep hb1
  replace x_b := x_b.keep hb1
  replace x_c := x_c.keep hb1
  replace x_d := x_d.keep hb1
  replace z53 := z53.keep hb1
  replace z63 := z63.keep hb1
  replace z56 := z56.keep hb1
  replace z66 := z66.keep hb1
  replace hb := bthen hb hb1
  clear hb1
  clear q_a0 f_a0 q_a1 f_a1; obtain ⟨q_a0, f_a0, q_a1, f_a1⟩ := x_a.al
  clear q_b0 f_b0 q_b1 f_b1; obtain ⟨q_b0, f_b0, q_b1, f_b1⟩ := x_b.al
  clear q_c0 f_c0 q_c1 f_c1; obtain ⟨q_c0, f_c0, q_c1, f_c1⟩ := x_c.al
  clear q_d0 f_d0 q_d1 f_d1; obtain ⟨q_d0, f_d0, q_d1, f_d1⟩ := x_d.al
  rcases hc with ⟨_, rfl, rfl, rfl⟩ | ⟨hno, _⟩
  rotate_left
  · exact absurd hno (by decide)
  rw [show rwLo 3 0 (3 : Int).toNat (1 : Int).toNat = 0 from by decide] at z59 ⊢
  rw [show rwHi 3 0 (3 : Int).toNat (1 : Int).toNat = 0 from by decide] at z69 ⊢
  have y_a := ((x_a.alloc (.cells #[.bool (ngB (0)), .slice A59 n59 c59] 24)).alloc (.cells #[.bool (ngB (0)), .slice A69 n69 c69] 24)); have yq_a0 := y_a.c0; have yq_a1 := y_a.c1
  have y_b := ((x_b.alloc (.cells #[.bool (ngB (0)), .slice A59 n59 c59] 24)).alloc (.cells #[.bool (ngB (0)), .slice A69 n69 c69] 24)); have yq_b0 := y_b.c0; have yq_b1 := y_b.c1
  have y_c := ((x_c.alloc (.cells #[.bool (ngB (0)), .slice A59 n59 c59] 24)).alloc (.cells #[.bool (ngB (0)), .slice A69 n69 c69] 24)); have yq_c0 := y_c.c0; have yq_c1 := y_c.c1
  have y_d := ((x_d.alloc (.cells #[.bool (ngB (0)), .slice A59 n59 c59] 24)).alloc (.cells #[.bool (ngB (0)), .slice A69 n69 c69] 24)); have yq_d0 := y_d.c0; have yq_d1 := y_d.c1
  go_upto_region 4 with fail
  clear y_a yq_a0 yq_a1 y_b yq_b0 yq_b1 y_c yq_c0 yq_c1 y_d yq_d0 yq_d1
  have l_a_g := x_a.lt
  have l_b_g := x_b.lt
  have l_c_g := x_c.lt
  have l_d_g := x_d.lt
  have e_g : w.heap.size ≤ v10.heap.size := hb.size
  have hb1 := below_alloc2 v10 (.cells #[.bool (ngB (0)), .slice A59 n59 c59] 24) (.cells #[.bool (ngB (0)), .slice A69 n69 c69] 24)
  have x_g := (Bx.new v10 (ngB (0)) A59 n59 c59).alloc (.cells #[.bool (ngB (0)), .slice A69 n69 c69] 24)
  have x_h : Bx ((v10.alloc (.cells #[.bool (ngB (0)), .slice A59 n59 c59] 24)).alloc (.cells #[.bool (ngB (0)), .slice A69 n69 c69] 24)) (v10.heap.size + 1) (ngB (0)) A69 n69 c69 := by have := Bx.new (v10.alloc (.cells #[.bool (ngB (0)), .slice A59 n59 c59] 24)) (ngB (0)) A69 n69 c69; simpa using this
  clear q_a0 f_a0 q_a1 f_a1 q_b0 f_b0 q_b1 f_b1 q_c0 f_c0 q_c1 f_c1 q_d0 f_d0 q_d1 f_d1
  replace x_a := x_a.keep hb1
  replace x_b := x_b.keep hb1
  replace x_c := x_c.keep hb1
  replace x_d := x_d.keep hb1
  replace z53 := z53.keep hb1
  replace z63 := z63.keep hb1
  replace z56 := z56.keep hb1
  replace z66 := z66.keep hb1
  replace z59 := z59.keep hb1
  replace z69 := z69.keep hb1
  replace hb := bthen hb hb1
  clear hb1
  generalize (v10.alloc (.cells #[.bool (ngB (0)), .slice A59 n59 c59] 24)).alloc (.cells #[.bool (ngB (0)), .slice A69 n69 c69] 24) = v11 at *
  obtain ⟨q_a0, f_a0, q_a1, f_a1⟩ := x_a.al
  obtain ⟨q_b0, f_b0, q_b1, f_b1⟩ := x_b.al
  obtain ⟨q_c0, f_c0, q_c1, f_c1⟩ := x_c.al
  obtain ⟨q_d0, f_d0, q_d1, f_d1⟩ := x_d.al
  obtain ⟨q_g0, f_g0, q_g1, f_g1⟩ := x_g.al
  obtain ⟨q_h0, f_h0, q_h1, f_h1⟩ := x_h.al
  go_wp2_with fail
  with_reducible refine (ZOf_any (9) (by omega) (by omega)).mono ?_
  rintro e v13 ⟨A12, n12, c12, rfl, zi, hb1⟩
  replace x_a := x_a.keep hb1
  replace x_b := x_b.keep hb1
  replace x_c := x_c.keep hb1
  replace x_d := x_d.keep hb1
  replace x_g := x_g.keep hb1
  replace x_h := x_h.keep hb1
  replace z53 := z53.keep hb1
  replace z63 := z63.keep hb1
  replace z56 := z56.keep hb1
  replace z66 := z66.keep hb1
  replace z59 := z59.keep hb1
  replace z69 := z69.keep hb1
  replace hb := bthen hb hb1
  clear hb1
  clear q_a0 f_a0 q_a1 f_a1; obtain ⟨q_a0, f_a0, q_a1, f_a1⟩ := x_a.al
  clear q_b0 f_b0 q_b1 f_b1; obtain ⟨q_b0, f_b0, q_b1, f_b1⟩ := x_b.al
  clear q_c0 f_c0 q_c1 f_c1; obtain ⟨q_c0, f_c0, q_c1, f_c1⟩ := x_c.al
  clear q_d0 f_d0 q_d1 f_d1; obtain ⟨q_d0, f_d0, q_d1, f_d1⟩ := x_d.al
  clear q_g0 f_g0 q_g1 f_g1; obtain ⟨q_g0, f_g0, q_g1, f_g1⟩ := x_g.al
  clear q_h0 f_h0 q_h1 f_h1; obtain ⟨q_h0, f_h0, q_h1, f_h1⟩ := x_h.al
  go_wp2_with fail
  with_reducible refine (KAtan_is zi.zr (4) (3) (by omega)).mono ?_
  rintro e v15 ⟨P14, R14, x14, ⟨A514, n514, c514, A614, n614, c614, rfl, z514, z614, hb1⟩, hc⟩
  replace x_a := x_a.keep hb1
  replace x_b := x_b.keep hb1
  replace x_c := x_c.keep hb1
  replace x_d := x_d.keep hb1
  replace x_g := x_g.keep hb1
  replace x_h := x_h.keep hb1
  replace z53 := z53.keep hb1
  replace z63 := z63.keep hb1
  replace z56 := z56.keep hb1
  replace z66 := z66.keep hb1
  replace z59 := z59.keep hb1
  replace z69 := z69.keep hb1
  replace zi := zi.keep hb1
  replace hb := bthen hb hb1
  clear hb1
  clear q_a0 f_a0 q_a1 f_a1; obtain ⟨q_a0, f_a0, q_a1, f_a1⟩ := x_a.al
  clear q_b0 f_b0 q_b1 f_b1; obtain ⟨q_b0, f_b0, q_b1, f_b1⟩ := x_b.al
  clear q_c0 f_c0 q_c1 f_c1; obtain ⟨q_c0, f_c0, q_c1, f_c1⟩ := x_c.al
  clear q_d0 f_d0 q_d1 f_d1; obtain ⟨q_d0, f_d0, q_d1, f_d1⟩ := x_d.al
  clear q_g0 f_g0 q_g1 f_g1; obtain ⟨q_g0, f_g0, q_g1, f_g1⟩ := x_g.al
  clear q_h0 f_h0 q_h1 f_h1; obtain ⟨q_h0, f_h0, q_h1, f_h1⟩ := x_h.al
  rcases hc with ⟨hyes, _⟩ | ⟨_, rfl, rfl, rfl⟩
  · exact absurd hyes (by decide)
  have y_a := ((x_a.alloc (.cells #[.bool (ngB (0)), .slice A514 n514 c514] 24)).alloc (.cells #[.bool (ngB (0)), .slice A614 n614 c614] 24)); have yq_a0 := y_a.c0; have yq_a1 := y_a.c1
  have y_b := ((x_b.alloc (.cells #[.bool (ngB (0)), .slice A514 n514 c514] 24)).alloc (.cells #[.bool (ngB (0)), .slice A614 n614 c614] 24)); have yq_b0 := y_b.c0; have yq_b1 := y_b.c1
  have y_c := ((x_c.alloc (.cells #[.bool (ngB (0)), .slice A514 n514 c514] 24)).alloc (.cells #[.bool (ngB (0)), .slice A614 n614 c614] 24)); have yq_c0 := y_c.c0; have yq_c1 := y_c.c1
  have y_d := ((x_d.alloc (.cells #[.bool (ngB (0)), .slice A514 n514 c514] 24)).alloc (.cells #[.bool (ngB (0)), .slice A614 n614 c614] 24)); have yq_d0 := y_d.c0; have yq_d1 := y_d.c1
  have y_g := ((x_g.alloc (.cells #[.bool (ngB (0)), .slice A514 n514 c514] 24)).alloc (.cells #[.bool (ngB (0)), .slice A614 n614 c614] 24)); have yq_g0 := y_g.c0; have yq_g1 := y_g.c1
  have y_h := ((x_h.alloc (.cells #[.bool (ngB (0)), .slice A514 n514 c514] 24)).alloc (.cells #[.bool (ngB (0)), .slice A614 n614 c614] 24)); have yq_h0 := y_h.c0; have yq_h1 := y_h.c1
  go_upto_region 5 with fail
  clear y_a yq_a0 yq_a1 y_b yq_b0 yq_b1 y_c yq_c0 yq_c1 y_d yq_d0 yq_d1 y_g yq_g0 yq_g1 y_h yq_h0 yq_h1
  have l_a_j := x_a.lt
  have l_b_j := x_b.lt
  have l_c_j := x_c.lt
  have l_d_j := x_d.lt
  have l_g_j := x_g.lt
  have l_h_j := x_h.lt
  have e_j : w.heap.size ≤ v15.heap.size := hb.size
  have hb1 := below_alloc2 v15 (.cells #[.bool (ngB (0)), .slice A514 n514 c514] 24) (.cells #[.bool (ngB (0)), .slice A614 n614 c614] 24)
  have x_j := (Bx.new v15 (ngB (0)) A514 n514 c514).alloc (.cells #[.bool (ngB (0)), .slice A614 n614 c614] 24)
  have x_k : Bx ((v15.alloc (.cells #[.bool (ngB (0)), .slice A514 n514 c514] 24)).alloc (.cells #[.bool (ngB (0)), .slice A614 n614 c614] 24)) (v15.heap.size + 1) (ngB (0)) A614 n614 c614 := by have := Bx.new (v15.alloc (.cells #[.bool (ngB (0)), .slice A514 n514 c514] 24)) (ngB (0)) A614 n614 c614; simpa using this
  clear q_a0 f_a0 q_a1 f_a1 q_b0 f_b0 q_b1 f_b1 q_c0 f_c0 q_c1 f_c1 q_d0 f_d0 q_d1 f_d1 q_g0 f_g0 q_g1 f_g1 q_h0 f_h0 q_h1 f_h1
  replace x_a := x_a.keep hb1
  replace x_b := x_b.keep hb1
  replace x_c := x_c.keep hb1
  replace x_d := x_d.keep hb1
  replace x_g := x_g.keep hb1
  replace x_h := x_h.keep hb1
  replace z53 := z53.keep hb1
  replace z63 := z63.keep hb1
  replace z56 := z56.keep hb1
  replace z66 := z66.keep hb1
  replace z59 := z59.keep hb1
  replace z69 := z69.keep hb1
  replace zi := zi.keep hb1
  replace z514 := z514.keep hb1
  replace z614 := z614.keep hb1
  replace hb := bthen hb hb1
  clear hb1
  generalize (v15.alloc (.cells #[.bool (ngB (0)), .slice A514 n514 c514] 24)).alloc (.cells #[.bool (ngB (0)), .slice A614 n614 c614] 24) = v16 at *
  obtain ⟨q_a0, f_a0, q_a1, f_a1⟩ := x_a.al
  obtain ⟨q_b0, f_b0, q_b1, f_b1⟩ := x_b.al
  obtain ⟨q_c0, f_c0, q_c1, f_c1⟩ := x_c.al
  obtain ⟨q_d0, f_d0, q_d1, f_d1⟩ := x_d.al
  obtain ⟨q_g0, f_g0, q_g1, f_g1⟩ := x_g.al
  obtain ⟨q_h0, f_h0, q_h1, f_h1⟩ := x_h.al
  obtain ⟨q_j0, f_j0, q_j1, f_j1⟩ := x_j.al
  obtain ⟨q_k0, f_k0, q_k1, f_k1⟩ := x_k.al
  clear zi
  clear q_j0 f_j0 q_j1 f_j1
  clear q_k0 f_k0 q_k1 f_k1
  go_wp2_with fail
  with_reducible refine (ZText_any z53.zr (by omega)).mono ?_
  rintro e v17 ⟨rfl, hb1⟩
  replace x_a := x_a.keep hb1
  replace x_b := x_b.keep hb1
  replace x_c := x_c.keep hb1
  replace x_d := x_d.keep hb1
  replace x_g := x_g.keep hb1
  replace x_h := x_h.keep hb1
  replace x_j := x_j.keep hb1
  replace x_k := x_k.keep hb1
  replace z53 := z53.keep hb1
  replace z63 := z63.keep hb1
  replace z56 := z56.keep hb1
  replace z66 := z66.keep hb1
  replace z59 := z59.keep hb1
  replace z69 := z69.keep hb1
  replace z514 := z514.keep hb1
  replace z614 := z614.keep hb1
  replace hb := bthen hb hb1
  clear hb1
  clear q_a0 f_a0 q_a1 f_a1; obtain ⟨q_a0, f_a0, q_a1, f_a1⟩ := x_a.al
  clear q_b0 f_b0 q_b1 f_b1; obtain ⟨q_b0, f_b0, q_b1, f_b1⟩ := x_b.al
  clear q_c0 f_c0 q_c1 f_c1; obtain ⟨q_c0, f_c0, q_c1, f_c1⟩ := x_c.al
  clear q_d0 f_d0 q_d1 f_d1; obtain ⟨q_d0, f_d0, q_d1, f_d1⟩ := x_d.al
  clear q_g0 f_g0 q_g1 f_g1; obtain ⟨q_g0, f_g0, q_g1, f_g1⟩ := x_g.al
  clear q_h0 f_h0 q_h1 f_h1; obtain ⟨q_h0, f_h0, q_h1, f_h1⟩ := x_h.al
  rw [tx_40]
  go_wp2_with fail
  with_reducible refine (ZText_any z63.zr (by omega)).mono ?_
  rintro e v18 ⟨rfl, hb1⟩
  replace x_a := x_a.keep hb1
  replace x_b := x_b.keep hb1
  replace x_c := x_c.keep hb1
  replace x_d := x_d.keep hb1
  replace x_g := x_g.keep hb1
  replace x_h := x_h.keep hb1
  replace x_j := x_j.keep hb1
  replace x_k := x_k.keep hb1
  replace z53 := z53.keep hb1
  replace z63 := z63.keep hb1
  replace z56 := z56.keep hb1
  replace z66 := z66.keep hb1
  replace z59 := z59.keep hb1
  replace z69 := z69.keep hb1
  replace z514 := z514.keep hb1
  replace z614 := z614.keep hb1
  replace hb := bthen hb hb1
  clear hb1
  clear q_a0 f_a0 q_a1 f_a1; obtain ⟨q_a0, f_a0, q_a1, f_a1⟩ := x_a.al
  clear q_b0 f_b0 q_b1 f_b1; obtain ⟨q_b0, f_b0, q_b1, f_b1⟩ := x_b.al
  clear q_c0 f_c0 q_c1 f_c1; obtain ⟨q_c0, f_c0, q_c1, f_c1⟩ := x_c.al
  clear q_d0 f_d0 q_d1 f_d1; obtain ⟨q_d0, f_d0, q_d1, f_d1⟩ := x_d.al
  clear q_g0 f_g0 q_g1 f_g1; obtain ⟨q_g0, f_g0, q_g1, f_g1⟩ := x_g.al
  clear q_h0 f_h0 q_h1 f_h1; obtain ⟨q_h0, f_h0, q_h1, f_h1⟩ := x_h.al
  rw [tx_46]
  go_wp2_with fail
  with_reducible refine (ZText_any z56.zr (by omega)).mono ?_
  rintro e v19 ⟨rfl, hb1⟩
  replace x_a := x_a.keep hb1
  replace x_b := x_b.keep hb1
  replace x_c := x_c.keep hb1
  replace x_d := x_d.keep hb1
  replace x_g := x_g.keep hb1
  replace x_h := x_h.keep hb1
  replace x_j := x_j.keep hb1
  replace x_k := x_k.keep hb1
  replace z53 := z53.keep hb1
  replace z63 := z63.keep hb1
  replace z56 := z56.keep hb1
  replace z66 := z66.keep hb1
  replace z59 := z59.keep hb1
  replace z69 := z69.keep hb1
  replace z514 := z514.keep hb1
  replace z614 := z614.keep hb1
  replace hb := bthen hb hb1
  clear hb1
  clear q_a0 f_a0 q_a1 f_a1; obtain ⟨q_a0, f_a0, q_a1, f_a1⟩ := x_a.al
  clear q_b0 f_b0 q_b1 f_b1; obtain ⟨q_b0, f_b0, q_b1, f_b1⟩ := x_b.al
  clear q_c0 f_c0 q_c1 f_c1; obtain ⟨q_c0, f_c0, q_c1, f_c1⟩ := x_c.al
  clear q_d0 f_d0 q_d1 f_d1; obtain ⟨q_d0, f_d0, q_d1, f_d1⟩ := x_d.al
  clear q_g0 f_g0 q_g1 f_g1; obtain ⟨q_g0, f_g0, q_g1, f_g1⟩ := x_g.al
  clear q_h0 f_h0 q_h1 f_h1; obtain ⟨q_h0, f_h0, q_h1, f_h1⟩ := x_h.al
  rw [tx_8]
  go_wp2_with fail
  with_reducible refine (ZText_any z66.zr (by omega)).mono ?_
  rintro e v20 ⟨rfl, hb1⟩
  replace x_a := x_a.keep hb1
  replace x_b := x_b.keep hb1
  replace x_c := x_c.keep hb1
  replace x_d := x_d.keep hb1
  replace x_g := x_g.keep hb1
  replace x_h := x_h.keep hb1
  replace x_j := x_j.keep hb1
  replace x_k := x_k.keep hb1
  replace z53 := z53.keep hb1
  replace z63 := z63.keep hb1
  replace z56 := z56.keep hb1
  replace z66 := z66.keep hb1
  replace z59 := z59.keep hb1
  replace z69 := z69.keep hb1
  replace z514 := z514.keep hb1
  replace z614 := z614.keep hb1
  replace hb := bthen hb hb1
  clear hb1
  clear q_a0 f_a0 q_a1 f_a1; obtain ⟨q_a0, f_a0, q_a1, f_a1⟩ := x_a.al
  clear q_b0 f_b0 q_b1 f_b1; obtain ⟨q_b0, f_b0, q_b1, f_b1⟩ := x_b.al
  clear q_c0 f_c0 q_c1 f_c1; obtain ⟨q_c0, f_c0, q_c1, f_c1⟩ := x_c.al
  clear q_d0 f_d0 q_d1 f_d1; obtain ⟨q_d0, f_d0, q_d1, f_d1⟩ := x_d.al
  clear q_g0 f_g0 q_g1 f_g1; obtain ⟨q_g0, f_g0, q_g1, f_g1⟩ := x_g.al
  clear q_h0 f_h0 q_h1 f_h1; obtain ⟨q_h0, f_h0, q_h1, f_h1⟩ := x_h.al
  rw [tx_8]
  go_wp2_with fail
  with_reducible refine (ZText_any z59.zr (by omega)).mono ?_
  rintro e v21 ⟨rfl, hb1⟩
  replace x_a := x_a.keep hb1
  replace x_b := x_b.keep hb1
  replace x_c := x_c.keep hb1
  replace x_d := x_d.keep hb1
  replace x_g := x_g.keep hb1
  replace x_h := x_h.keep hb1
  replace x_j := x_j.keep hb1
  replace x_k := x_k.keep hb1
  replace z53 := z53.keep hb1
  replace z63 := z63.keep hb1
  replace z56 := z56.keep hb1
  replace z66 := z66.keep hb1
  replace z59 := z59.keep hb1
  replace z69 := z69.keep hb1
  replace z514 := z514.keep hb1
  replace z614 := z614.keep hb1
  replace hb := bthen hb hb1
  clear hb1
  clear q_a0 f_a0 q_a1 f_a1; obtain ⟨q_a0, f_a0, q_a1, f_a1⟩ := x_a.al
  clear q_b0 f_b0 q_b1 f_b1; obtain ⟨q_b0, f_b0, q_b1, f_b1⟩ := x_b.al
  clear q_c0 f_c0 q_c1 f_c1; obtain ⟨q_c0, f_c0, q_c1, f_c1⟩ := x_c.al
  clear q_d0 f_d0 q_d1 f_d1; obtain ⟨q_d0, f_d0, q_d1, f_d1⟩ := x_d.al
  clear q_g0 f_g0 q_g1 f_g1; obtain ⟨q_g0, f_g0, q_g1, f_g1⟩ := x_g.al
  clear q_h0 f_h0 q_h1 f_h1; obtain ⟨q_h0, f_h0, q_h1, f_h1⟩ := x_h.al
  rw [tx_0]
  go_wp2_with fail
  with_reducible refine (ZText_any z69.zr (by omega)).mono ?_
  rintro e v22 ⟨rfl, hb1⟩
  replace x_a := x_a.keep hb1
  replace x_b := x_b.keep hb1
  replace x_c := x_c.keep hb1
  replace x_d := x_d.keep hb1
  replace x_g := x_g.keep hb1
  replace x_h := x_h.keep hb1
  replace x_j := x_j.keep hb1
  replace x_k := x_k.keep hb1
  replace z53 := z53.keep hb1
  replace z63 := z63.keep hb1
  replace z56 := z56.keep hb1
  replace z66 := z66.keep hb1
  replace z59 := z59.keep hb1
  replace z69 := z69.keep hb1
  replace z514 := z514.keep hb1
  replace z614 := z614.keep hb1
  replace hb := bthen hb hb1
  clear hb1
  clear q_a0 f_a0 q_a1 f_a1; obtain ⟨q_a0, f_a0, q_a1, f_a1⟩ := x_a.al
  clear q_b0 f_b0 q_b1 f_b1; obtain ⟨q_b0, f_b0, q_b1, f_b1⟩ := x_b.al
  clear q_c0 f_c0 q_c1 f_c1; obtain ⟨q_c0, f_c0, q_c1, f_c1⟩ := x_c.al
  clear q_d0 f_d0 q_d1 f_d1; obtain ⟨q_d0, f_d0, q_d1, f_d1⟩ := x_d.al
  clear q_g0 f_g0 q_g1 f_g1; obtain ⟨q_g0, f_g0, q_g1, f_g1⟩ := x_g.al
  clear q_h0 f_h0 q_h1 f_h1; obtain ⟨q_h0, f_h0, q_h1, f_h1⟩ := x_h.al
  rw [tx_0]
  go_wp2
  go_ret
  exact ⟨rfl, hb⟩

end Go.Proofs.YthlpdljkclngdaaGreat
