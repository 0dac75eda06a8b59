/-
  the laws of dyad: of, shown.
-/
import Derived.Test.YtcoidcbbdibnaaaDoorDadd
import Derived.Test.YtcoidcbbdibnaaaDoorDfun
import Derived.Test.YtcoidcbbdibnaaaDoorZtext
namespace Go.Proofs.YtcoidcbbdibnaaaDoor
open Go.RowKit
set_option linter.unusedVariables false

theorem tx_neg {N : Nat} (h0 : 0 < N) (h : N < 10) : txL (-(N : Int)) = [45, digC N] := by
  unfold txL; rw [if_pos (by omega), show (-(N : Int)).natAbs = N by omega, decL_small h]; rfl
theorem tx_pos {N : Nat} (h : N < 10) : txL (N : Int) = [digC N] := by
  unfold txL; rw [if_neg (by omega), show (N : Int).natAbs = N by omega, decL_small h]; rfl
theorem tx_m2 : txL (-2) = [45, 50] := tx_neg (N := 2) (by omega) (by omega)
theorem tx_m1 : txL (-1) = [45, 49] := tx_neg (N := 1) (by omega) (by omega)
theorem tx_1 : txL 1 = [49] := tx_pos (N := 1) (by omega)
theorem bl_3 : bl 3 = 2 := by
  have h1 : bl 3 ≤ 2 := bl_le (by omega)
  have h2 : 1 < bl 3 := bl_ge (k := 1) (by omega)
  omega
theorem log_34 : lgI (cM 3 (-2)) (cE (-2)) = -1 := by
  rw [show cM 3 (-2) = 3 from by decide, show cE (-2) = -2 from by decide]
  unfold lgI
  rw [if_neg (by omega), show (3 : Int).natAbs = 3 from rfl, bl_3]
  omega
theorem tx_3 : txL 3 = [51] := tx_pos (N := 3) (by omega)

set_option maxRecDepth 100000 in
set_option maxHeartbeats 1000000 in
theorem of_any (m e : Int) {w : World} (hT : Tab w) (h0 : -9223372036854775808 ≤ m) (h1 : m ≤ 9223372036854775807) :
    Calls Tryd.prog 43 #[.int .i64 m, .int .i64 e] w (OutD w (od (cM m e)) (nE (cM m e) (cE e)) 2) := by
  go_enter Tryd.func43, Tryd.ntmps43
  go_wp2_with fail
  have x_r : Dx (w.alloc (.cells #[.bool false, .slice none 0 0, .int .i64 0] 26)) (w.heap.size) false none 0 0 0 := by have := Dx.new w false none 0 0 0; simpa using this
  have hb : Below w.heap.size w (w.alloc (.cells #[.bool false, .slice none 0 0, .int .i64 0] 26)) := (Below.alloc (Below.refl w.heap.size w) (by simp) (.cells #[.bool false, .slice none 0 0, .int .i64 0] 26))
  generalize w.alloc (.cells #[.bool false, .slice none 0 0, .int .i64 0] 26) = v1 at *
  replace hT := hT.keep hb
  have q_r0 := x_r.c0; have q_r1 := x_r.c1; have f_r0 := x_r.fr 0; have f_r1 := x_r.fr 1; have q_r2 := x_r.c2; have f_r2 := x_r.fr 2
  go_wp2_with fail
  with_reducible refine (ZOf_any m h0 h1).mono ?_
  rintro e v2 ⟨A1, n1, c1, rfl, z1, hb1⟩
  replace x_r := x_r.keep hb1
  replace hT := hT.keep hb1
  replace hb := bthen hb hb1
  clear hb1
  replace q_r0 := x_r.c0; replace q_r1 := x_r.c1; replace f_r0 := x_r.fr 0; replace f_r1 := x_r.fr 1; replace q_r2 := x_r.c2; replace f_r2 := x_r.fr 2
  go_wp2_with fail
  with_reducible refine (DOf_any z1.zr hT 2 (by omega) (by omega)).mono ?_
  rintro e v3 ⟨A2, n2, c2, rfl, z2, hb1⟩
  replace x_r := x_r.keep hb1
  replace hT := hT.keep hb1
  replace z1 := z1.keep hb1
  replace hb := bthen hb hb1
  clear hb1
  replace q_r0 := x_r.c0; replace q_r1 := x_r.c1; replace f_r0 := x_r.fr 0; replace f_r1 := x_r.fr 1; replace q_r2 := x_r.c2; replace f_r2 := x_r.fr 2
  go_wp2
  replace hT := hT.putD (b' := (ngB (od (cM m e)))) (A' := A2) (n' := n2) (c' := c2) (e' := (nE (cM m e) (cE e))) x_r
  replace z1 := z1.putD (b' := (ngB (od (cM m e)))) (A' := A2) (n' := n2) (c' := c2) (e' := (nE (cM m e) (cE e))) x_r
  replace z2 := z2.putD (b' := (ngB (od (cM m e)))) (A' := A2) (n' := n2) (c' := c2) (e' := (nE (cM m e) (cE e))) x_r
  replace hb := put_belowD (g := w.heap.size) hb (by omega) (.bool (ngB (od (cM m e)))) (.slice A2 n2 c2) (.int .i64 (nE (cM m e) (cE e)))
  replace x_r := x_r.put (ngB (od (cM m e))) A2 n2 c2 (nE (cM m e) (cE e))
  clear q_r0 q_r1 f_r0 f_r1 q_r2 f_r2
  generalize ((v3.setCell ⟨w.heap.size, 0, none⟩ (.bool (ngB (od (cM m e))))).setCell ⟨w.heap.size, 1, none⟩ (.slice A2 n2 c2)).setCell ⟨w.heap.size, 2, none⟩ (.int .i64 (nE (cM m e) (cE e))) = v4 at *
  have q_r0 := x_r.c0; have q_r1 := x_r.c1; have f_r0 := x_r.fr 0; have f_r1 := x_r.fr 1; have q_r2 := x_r.c2; have f_r2 := x_r.fr 2
  refine bodyPost_ret (v := .agg #[.bool (ngB (od (cM m e))), .slice A2 n2 c2, .int .i64 (nE (cM m e) (cE e))]) (by simp [results, Tryd.results43, go_sem, q_r0, q_r1, q_r2]) rfl ?_
  exact ⟨_, _, _, rfl, z2, hb⟩

set_option maxRecDepth 100000 in
set_option maxHeartbeats 4000000 in
theorem Dshown_any {w : World} (hT : Tab w) : Calls Tryd.prog 9 #[] w fun e w' => e = .returned (.bool true) ∧ Below w.heap.size w w' := by
  have hb := Below.refl w.heap.size w
  go_enter Tryd.func9, Tryd.ntmps9
  go_wp2_with fail
  with_reducible refine (ZOf_any 12 (by omega) (by omega)).mono ?_
  rintro e v1 ⟨A1, n1, c1, rfl, za, hb1⟩
  replace hT := hT.keep hb1
  replace hb := bthen hb hb1
  clear hb1
  go_wp2_with fail
  with_reducible refine (DNorm_any za.zr hT 2 (by omega) (by omega)).mono ?_
  rintro e v2 ⟨A2, n2, c2, rfl, z_d, hb1⟩
  replace hT := hT.keep hb1
  replace za := za.keep hb1
  replace hb := bthen hb hb1
  clear hb1
  rw [show od (cM 12 (-1)) = 3 from by decide] at z_d ⊢
  rw [show nE (cM 12 (-1)) (cE (-1)) = 1 from by decide]
  clear za
  go_wp2_with fail
  have hb1 := below_alloc v2 (.cells #[.bool (ngB 3), .slice A2 n2 c2, .int .i64 1] 26)
  have x_d := Dx.new v2 (ngB 3) A2 n2 c2 1
  have e_d : w.heap.size ≤ v2.heap.size := hb.size
  replace hT := hT.keep hb1
  replace z_d := z_d.keep hb1
  replace hb := bthen hb hb1
  clear hb1
  generalize v2.alloc (.cells #[.bool (ngB 3), .slice A2 n2 c2, .int .i64 1] 26) = v3 at *
  have q_d0 := x_d.c0; have q_d1 := x_d.c1; have f_d0 := x_d.fr 0; have f_d1 := x_d.fr 1; have q_d2 := x_d.c2; have f_d2 := x_d.fr 2
  go_wp2_with fail
  with_reducible refine (of_any (1) (-1) hT (by omega) (by omega)).mono ?_
  rintro e v5 ⟨A4, n4, c4, rfl, za, hb1⟩
  replace x_d := x_d.keep hb1
  replace hT := hT.keep hb1
  replace z_d := z_d.keep hb1
  replace hb := bthen hb hb1
  clear hb1
  replace q_d0 := x_d.c0; replace q_d1 := x_d.c1; replace f_d0 := x_d.fr 0; replace f_d1 := x_d.fr 1; replace q_d2 := x_d.c2; replace f_d2 := x_d.fr 2
  rw [show od (cM (1) (-1)) = 1 from by decide] at za ⊢
  rw [show nE (cM (1) (-1)) (cE (-1)) = -1 from by decide]
  go_wp2_with fail
  with_reducible refine (of_any (1) (-1) hT (by omega) (by omega)).mono ?_
  rintro e v7 ⟨A6, n6, c6, rfl, zb, hb1⟩
  replace x_d := x_d.keep hb1
  replace hT := hT.keep hb1
  replace z_d := z_d.keep hb1
  replace za := za.keep hb1
  replace hb := bthen hb hb1
  clear hb1
  replace q_d0 := x_d.c0; replace q_d1 := x_d.c1; replace f_d0 := x_d.fr 0; replace f_d1 := x_d.fr 1; replace q_d2 := x_d.c2; replace f_d2 := x_d.fr 2
  rw [show od (cM (1) (-1)) = 1 from by decide] at zb ⊢
  rw [show nE (cM (1) (-1)) (cE (-1)) = -1 from by decide]
  go_wp2_with fail
  with_reducible refine (DAdd_any za.zr zb.zr hT 200 (by omega) (by omega) (by omega)).mono ?_
  rintro e v8 ⟨A3, n3, c3, rfl, z_s, hb1⟩
  replace x_d := x_d.keep hb1
  replace hT := hT.keep hb1
  replace z_d := z_d.keep hb1
  replace za := za.keep hb1
  replace zb := zb.keep hb1
  replace hb := bthen hb hb1
  clear hb1
  replace q_d0 := x_d.c0; replace q_d1 := x_d.c1; replace f_d0 := x_d.fr 0; replace f_d1 := x_d.fr 1; replace q_d2 := x_d.c2; replace f_d2 := x_d.fr 2
  rw [show od (alP 1 (-1) (-1) + alQ 1 (-1) (-1)) = 1 from by decide] at z_s ⊢
  rw [show nE (alP 1 (-1) (-1) + alQ 1 (-1) (-1)) (alE (-1) (-1)) = 0 from by decide]
  clear za zb
  go_wp2_with fail
  have hb1 := below_alloc v8 (.cells #[.bool (ngB 1), .slice A3 n3 c3, .int .i64 0] 26)
  have l_d_s := x_d.lt
  have x_s := Dx.new v8 (ngB 1) A3 n3 c3 0
  have e_s : w.heap.size ≤ v8.heap.size := hb.size
  replace x_d := x_d.keep hb1
  replace hT := hT.keep hb1
  replace z_d := z_d.keep hb1
  replace z_s := z_s.keep hb1
  replace hb := bthen hb hb1
  clear hb1
  replace q_d0 := x_d.c0; replace q_d1 := x_d.c1; replace f_d0 := x_d.fr 0; replace f_d1 := x_d.fr 1; replace q_d2 := x_d.c2; replace f_d2 := x_d.fr 2
  clear q_d0 q_d1 f_d0 f_d1 q_d2 f_d2
  generalize v8.alloc (.cells #[.bool (ngB 1), .slice A3 n3 c3, .int .i64 0] 26) = v9 at *
  have q_d0 := x_d.c0; have q_d1 := x_d.c1; have f_d0 := x_d.fr 0; have f_d1 := x_d.fr 1; have q_d2 := x_d.c2; have f_d2 := x_d.fr 2
  have q_s0 := x_s.c0; have q_s1 := x_s.c1; have f_s0 := x_s.fr 0; have f_s1 := x_s.fr 1; have q_s2 := x_s.c2; have f_s2 := x_s.fr 2
  go_wp2_with fail
  with_reducible refine (of_any (3) (-2) hT (by omega) (by omega)).mono ?_
  rintro e v11 ⟨A10, n10, c10, rfl, za, hb1⟩
  replace x_d := x_d.keep hb1
  replace x_s := x_s.keep hb1
  replace hT := hT.keep hb1
  replace z_d := z_d.keep hb1
  replace z_s := z_s.keep hb1
  replace hb := bthen hb hb1
  clear hb1
  replace q_d0 := x_d.c0; replace q_d1 := x_d.c1; replace f_d0 := x_d.fr 0; replace f_d1 := x_d.fr 1; replace q_d2 := x_d.c2; replace f_d2 := x_d.fr 2
  replace q_s0 := x_s.c0; replace q_s1 := x_s.c1; replace f_s0 := x_s.fr 0; replace f_s1 := x_s.fr 1; replace q_s2 := x_s.c2; replace f_s2 := x_s.fr 2
  rw [show od (cM (3) (-2)) = 3 from by decide] at za ⊢
  rw [show nE (cM (3) (-2)) (cE (-2)) = -2 from by decide]
  go_wp2_with fail
  with_reducible refine (DLog_any za.zr (by omega)).mono ?_
  rintro e v12 ⟨rfl, hb1⟩
  replace x_d := x_d.keep hb1
  replace x_s := x_s.keep hb1
  replace hT := hT.keep hb1
  replace z_d := z_d.keep hb1
  replace z_s := z_s.keep hb1
  replace za := za.keep hb1
  replace hb := bthen hb hb1
  clear hb1
  replace q_d0 := x_d.c0; replace q_d1 := x_d.c1; replace f_d0 := x_d.fr 0; replace f_d1 := x_d.fr 1; replace q_d2 := x_d.c2; replace f_d2 := x_d.fr 2
  replace q_s0 := x_s.c0; replace q_s1 := x_s.c1; replace f_s0 := x_s.fr 0; replace f_s1 := x_s.fr 1; replace q_s2 := x_s.c2; replace f_s2 := x_s.fr 2
  rw [show lgI (cM 3 (-2)) (cE (-2)) = -1 from log_34]
  rw [show lgB (cM 3 (-2)) = true from by decide]
  clear za
  go_wp2_with fail
  with_reducible refine (ZText_any z_d.zr (by omega)).mono ?_
  rintro e v13 ⟨rfl, hb1⟩
  replace x_d := x_d.keep hb1
  replace x_s := x_s.keep hb1
  replace hT := hT.keep hb1
  replace z_d := z_d.keep hb1
  replace z_s := z_s.keep hb1
  replace hb := bthen hb hb1
  clear hb1
  replace q_d0 := x_d.c0; replace q_d1 := x_d.c1; replace f_d0 := x_d.fr 0; replace f_d1 := x_d.fr 1; replace q_d2 := x_d.c2; replace f_d2 := x_d.fr 2
  replace q_s0 := x_s.c0; replace q_s1 := x_s.c1; replace f_s0 := x_s.fr 0; replace f_s1 := x_s.fr 1; replace q_s2 := x_s.c2; replace f_s2 := x_s.fr 2
  rw [tx_3]
  go_wp2_with fail
  with_reducible refine (ZText_any z_s.zr (by omega)).mono ?_
  rintro e v14 ⟨rfl, hb1⟩
  replace x_d := x_d.keep hb1
  replace x_s := x_s.keep hb1
  replace hT := hT.keep hb1
  replace z_d := z_d.keep hb1
  replace z_s := z_s.keep hb1
  replace hb := bthen hb hb1
  clear hb1
  replace q_d0 := x_d.c0; replace q_d1 := x_d.c1; replace f_d0 := x_d.fr 0; replace f_d1 := x_d.fr 1; replace q_d2 := x_d.c2; replace f_d2 := x_d.fr 2
  replace q_s0 := x_s.c0; replace q_s1 := x_s.c1; replace f_s0 := x_s.fr 0; replace f_s1 := x_s.fr 1; replace q_s2 := x_s.c2; replace f_s2 := x_s.fr 2
  rw [tx_1]
  go_wp2_with fail
  with_reducible refine (of_any (-3) (-2) hT (by omega) (by omega)).mono ?_
  rintro e v16 ⟨A15, n15, c15, rfl, za, hb1⟩
  replace x_d := x_d.keep hb1
  replace x_s := x_s.keep hb1
  replace hT := hT.keep hb1
  replace z_d := z_d.keep hb1
  replace z_s := z_s.keep hb1
  replace hb := bthen hb hb1
  clear hb1
  replace q_d0 := x_d.c0; replace q_d1 := x_d.c1; replace f_d0 := x_d.fr 0; replace f_d1 := x_d.fr 1; replace q_d2 := x_d.c2; replace f_d2 := x_d.fr 2
  replace q_s0 := x_s.c0; replace q_s1 := x_s.c1; replace f_s0 := x_s.fr 0; replace f_s1 := x_s.fr 1; replace q_s2 := x_s.c2; replace f_s2 := x_s.fr 2
  rw [show od (cM (-3) (-2)) = (-3) from by decide] at za ⊢
  rw [show nE (cM (-3) (-2)) (cE (-2)) = -2 from by decide]
  go_wp2_with fail
  with_reducible refine (DFloor_any za.zr 1 200 (by omega) (by omega)).mono ?_
  rintro e v17 ⟨A4, n4, c4, rfl, z_f, hb1⟩
  replace x_d := x_d.keep hb1
  replace x_s := x_s.keep hb1
  replace hT := hT.keep hb1
  replace z_d := z_d.keep hb1
  replace z_s := z_s.keep hb1
  replace za := za.keep hb1
  replace hb := bthen hb hb1
  clear hb1
  replace q_d0 := x_d.c0; replace q_d1 := x_d.c1; replace f_d0 := x_d.fr 0; replace f_d1 := x_d.fr 1; replace q_d2 := x_d.c2; replace f_d2 := x_d.fr 2
  replace q_s0 := x_s.c0; replace q_s1 := x_s.c1; replace f_s0 := x_s.fr 0; replace f_s1 := x_s.fr 1; replace q_s2 := x_s.c2; replace f_s2 := x_s.fr 2
  rw [show flI (cM (-3) (-2)) (cE (-2) + li 1) = -2 from by decide] at z_f ⊢
  go_wp2_with fail
  with_reducible refine (ZText_any z_f.zr (by omega)).mono ?_
  rintro e v18 ⟨rfl, hb1⟩
  replace x_d := x_d.keep hb1
  replace x_s := x_s.keep hb1
  replace hT := hT.keep hb1
  replace z_d := z_d.keep hb1
  replace z_s := z_s.keep hb1
  replace za := za.keep hb1
  replace z_f := z_f.keep hb1
  replace hb := bthen hb hb1
  clear hb1
  replace q_d0 := x_d.c0; replace q_d1 := x_d.c1; replace f_d0 := x_d.fr 0; replace f_d1 := x_d.fr 1; replace q_d2 := x_d.c2; replace f_d2 := x_d.fr 2
  replace q_s0 := x_s.c0; replace q_s1 := x_s.c1; replace f_s0 := x_s.fr 0; replace f_s1 := x_s.fr 1; replace q_s2 := x_s.c2; replace f_s2 := x_s.fr 2
  rw [tx_m2]
  clear za z_f
  go_wp2_with fail
  with_reducible refine (of_any (-3) (-2) hT (by omega) (by omega)).mono ?_
  rintro e v20 ⟨A19, n19, c19, rfl, za, hb1⟩
  replace x_d := x_d.keep hb1
  replace x_s := x_s.keep hb1
  replace hT := hT.keep hb1
  replace z_d := z_d.keep hb1
  replace z_s := z_s.keep hb1
  replace hb := bthen hb hb1
  clear hb1
  replace q_d0 := x_d.c0; replace q_d1 := x_d.c1; replace f_d0 := x_d.fr 0; replace f_d1 := x_d.fr 1; replace q_d2 := x_d.c2; replace f_d2 := x_d.fr 2
  replace q_s0 := x_s.c0; replace q_s1 := x_s.c1; replace f_s0 := x_s.fr 0; replace f_s1 := x_s.fr 1; replace q_s2 := x_s.c2; replace f_s2 := x_s.fr 2
  rw [show od (cM (-3) (-2)) = (-3) from by decide] at za ⊢
  rw [show nE (cM (-3) (-2)) (cE (-2)) = -2 from by decide]
  go_wp2_with fail
  with_reducible refine (DCeil_any za.zr 1 200 (by omega) (by omega)).mono ?_
  rintro e v21 ⟨A5, n5, c5, rfl, z_c, hb1⟩
  replace x_d := x_d.keep hb1
  replace x_s := x_s.keep hb1
  replace hT := hT.keep hb1
  replace z_d := z_d.keep hb1
  replace z_s := z_s.keep hb1
  replace za := za.keep hb1
  replace hb := bthen hb hb1
  clear hb1
  replace q_d0 := x_d.c0; replace q_d1 := x_d.c1; replace f_d0 := x_d.fr 0; replace f_d1 := x_d.fr 1; replace q_d2 := x_d.c2; replace f_d2 := x_d.fr 2
  replace q_s0 := x_s.c0; replace q_s1 := x_s.c1; replace f_s0 := x_s.fr 0; replace f_s1 := x_s.fr 1; replace q_s2 := x_s.c2; replace f_s2 := x_s.fr 2
  rw [show -flI (-cM (-3) (-2)) (cE (-2) + li 1) = -1 from by decide] at z_c ⊢
  go_wp2_with fail
  with_reducible refine (ZText_any z_c.zr (by omega)).mono ?_
  rintro e v22 ⟨rfl, hb1⟩
  replace x_d := x_d.keep hb1
  replace x_s := x_s.keep hb1
  replace hT := hT.keep hb1
  replace z_d := z_d.keep hb1
  replace z_s := z_s.keep hb1
  replace za := za.keep hb1
  replace z_c := z_c.keep hb1
  replace hb := bthen hb hb1
  clear hb1
  replace q_d0 := x_d.c0; replace q_d1 := x_d.c1; replace f_d0 := x_d.fr 0; replace f_d1 := x_d.fr 1; replace q_d2 := x_d.c2; replace f_d2 := x_d.fr 2
  replace q_s0 := x_s.c0; replace q_s1 := x_s.c1; replace f_s0 := x_s.fr 0; replace f_s1 := x_s.fr 1; replace q_s2 := x_s.c2; replace f_s2 := x_s.fr 2
  rw [tx_m1]
  go_wp2
  go_ret
  exact ⟨rfl, hb⟩

end Go.Proofs.YtcoidcbbdibnaaaDoor
