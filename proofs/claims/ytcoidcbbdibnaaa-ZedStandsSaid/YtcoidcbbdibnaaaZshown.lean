/-
  the laws of zed: shown.
-/
import Derived.Test.YtcoidcbbdibnaaaZcut
import Derived.Test.YtcoidcbbdibnaaaZup
namespace Go.Proofs.Ytcoidcbbdibnaaa
open Go.RowKit
set_option linter.unusedVariables false

theorem tx_neg {N : Nat} (h0 : 0 < N) (h : N < 10) : txL (-(N : Int)) = [45, digC N] := by
  unfold txL; rw [if_pos (by omega), show (-(N : Int)).natAbs = N by omega, decL_small h]; rfl
theorem tx_pos {N : Nat} (h : N < 10) : txL (N : Int) = [digC N] := by
  unfold txL; rw [if_neg (by omega), show (N : Int).natAbs = N by omega, decL_small h]; rfl
theorem tx_m4 : txL (-4) = [45, 52] := tx_neg (N := 4) (by omega) (by omega)
theorem tx_m3 : txL (-3) = [45, 51] := tx_neg (N := 3) (by omega) (by omega)
theorem tx_1 : txL 1 = [49] := tx_pos (N := 1) (by omega)
theorem tx_4 : txL 4 = [52] := tx_pos (N := 4) (by omega)
theorem big_small : smI (zi false (vl Wd [9223372036854775808])) = 0 ∧ smB (zi false (vl Wd [9223372036854775808])) = false := by
  have h := smB_no (X := zi false (vl Wd [9223372036854775808])) (by rw [vl_one, zi_false]; simp)
  exact ⟨h.2, h.1⟩

set_option maxRecDepth 100000 in
set_option maxHeartbeats 4000000 in
theorem Zshown_any (w : World) : Calls Try.prog 5 #[] w fun e w' => e = .returned (.bool true) ∧ Below w.heap.size w w' := by
  have hb := Below.refl w.heap.size w
  go_enter Try.func5, Try.ntmps5
  go_wp2_with fail
  with_reducible refine (ZOf_any (-7) (by omega) (by omega)).mono ?_
  rintro e v2 ⟨A1, n1, c1, rfl, za, hb1⟩
  replace hb := bthen hb hb1
  clear hb1
  go_wp2_with fail
  with_reducible refine (ZOf_any (2) (by omega) (by omega)).mono ?_
  rintro e v4 ⟨A3, n3, c3, rfl, zb, hb1⟩
  replace za := za.keep hb1
  replace hb := bthen hb hb1
  clear hb1
  go_wp2_with fail
  with_reducible refine (ZDivMod_any za.zr zb.zr (by omega) 2 (by omega) (by omega) (by omega)).mono ?_
  rintro e v7 ⟨A5, n5, c5, A6, n6, c6, rfl, z_q, z_r, hb1⟩
  replace za := za.keep hb1
  replace zb := zb.keep hb1
  replace hb := bthen hb hb1
  clear hb1
  rw [show (-7 : Int) / 2 = -4 from by decide] at z_q ⊢
  rw [show (-7 : Int) % 2 = 1 from by decide] at z_r ⊢
  clear za zb
  go_wp2_with fail
  have e_q : w.heap.size ≤ v7.heap.size := hb.size
  obtain ⟨hb1, x_q, x_r⟩ := box2 v7 (ngB (-4)) A5 n5 c5 (ngB 1) A6 n6 c6
  replace z_q := z_q.keep hb1
  replace z_r := z_r.keep hb1
  replace hb := bthen hb hb1
  clear hb1
  generalize (v7.alloc (.cells #[.bool (ngB (-4)), .slice A5 n5 c5] 24)).alloc (.cells #[.bool (ngB 1), .slice A6 n6 c6] 24) = v8 at *
  have q_q0 := x_q.c0; have q_q1 := x_q.c1; have f_q0 := x_q.fr 0; have f_q1 := x_q.fr 1
  have q_r0 := x_r.c0; have q_r1 := x_r.c1; have f_r0 := x_r.fr 0; have f_r1 := x_r.fr 1
  go_wp2_with fail
  with_reducible refine (ZOf_any (-7) (by omega) (by omega)).mono ?_
  rintro e v10 ⟨A9, n9, c9, rfl, za, hb1⟩
  replace x_q := x_q.keep hb1
  replace x_r := x_r.keep hb1
  replace z_q := z_q.keep hb1
  replace z_r := z_r.keep hb1
  replace hb := bthen hb hb1
  clear hb1
  replace q_q0 := x_q.c0; replace q_q1 := x_q.c1; replace f_q0 := x_q.fr 0; replace f_q1 := x_q.fr 1
  replace q_r0 := x_r.c0; replace q_r1 := x_r.c1; replace f_r0 := x_r.fr 0; replace f_r1 := x_r.fr 1
  go_wp2_with fail
  with_reducible refine (ZOf_any ((-2)) (by omega) (by omega)).mono ?_
  rintro e v12 ⟨A11, n11, c11, rfl, zb, hb1⟩
  replace x_q := x_q.keep hb1
  replace x_r := x_r.keep hb1
  replace z_q := z_q.keep hb1
  replace z_r := z_r.keep hb1
  replace za := za.keep hb1
  replace hb := bthen hb hb1
  clear hb1
  replace q_q0 := x_q.c0; replace q_q1 := x_q.c1; replace f_q0 := x_q.fr 0; replace f_q1 := x_q.fr 1
  replace q_r0 := x_r.c0; replace q_r1 := x_r.c1; replace f_r0 := x_r.fr 0; replace f_r1 := x_r.fr 1
  go_wp2_with fail
  with_reducible refine (ZDivMod_any za.zr zb.zr (by omega) 2 (by omega) (by omega) (by omega)).mono ?_
  rintro e v15 ⟨A13, n13, c13, A14, n14, c14, rfl, z_s, z_t, hb1⟩
  replace x_q := x_q.keep hb1
  replace x_r := x_r.keep hb1
  replace z_q := z_q.keep hb1
  replace z_r := z_r.keep hb1
  replace za := za.keep hb1
  replace zb := zb.keep hb1
  replace hb := bthen hb hb1
  clear hb1
  replace q_q0 := x_q.c0; replace q_q1 := x_q.c1; replace f_q0 := x_q.fr 0; replace f_q1 := x_q.fr 1
  replace q_r0 := x_r.c0; replace q_r1 := x_r.c1; replace f_r0 := x_r.fr 0; replace f_r1 := x_r.fr 1
  rw [show (-7 : Int) / (-2) = 4 from by decide] at z_s ⊢
  rw [show (-7 : Int) % (-2) = 1 from by decide] at z_t ⊢
  clear za zb
  go_wp2_with fail
  have l_q_s := x_q.lt
  have l_r_s := x_r.lt
  have e_s : w.heap.size ≤ v15.heap.size := hb.size
  obtain ⟨hb1, x_s, x_t⟩ := box2 v15 (ngB (4)) A13 n13 c13 (ngB 1) A14 n14 c14
  replace x_q := x_q.keep hb1
  replace x_r := x_r.keep hb1
  replace z_q := z_q.keep hb1
  replace z_r := z_r.keep hb1
  replace z_s := z_s.keep hb1
  replace z_t := z_t.keep hb1
  replace hb := bthen hb hb1
  clear hb1
  replace q_q0 := x_q.c0; replace q_q1 := x_q.c1; replace f_q0 := x_q.fr 0; replace f_q1 := x_q.fr 1
  replace q_r0 := x_r.c0; replace q_r1 := x_r.c1; replace f_r0 := x_r.fr 0; replace f_r1 := x_r.fr 1
  clear q_q0 q_q1 f_q0 f_q1 q_r0 q_r1 f_r0 f_r1
  generalize (v15.alloc (.cells #[.bool (ngB (4)), .slice A13 n13 c13] 24)).alloc (.cells #[.bool (ngB 1), .slice A14 n14 c14] 24) = v16 at *
  have q_q0 := x_q.c0; have q_q1 := x_q.c1; have f_q0 := x_q.fr 0; have f_q1 := x_q.fr 1
  have q_r0 := x_r.c0; have q_r1 := x_r.c1; have f_r0 := x_r.fr 0; have f_r1 := x_r.fr 1
  have q_s0 := x_s.c0; have q_s1 := x_s.c1; have f_s0 := x_s.fr 0; have f_s1 := x_s.fr 1
  have q_t0 := x_t.c0; have q_t1 := x_t.c1; have f_t0 := x_t.fr 0; have f_t1 := x_t.fr 1
  go_wp2_with fail
  with_reducible refine (ZOf_any (-7) (by omega) (by omega)).mono ?_
  rintro e v18 ⟨A17, n17, c17, rfl, za, hb1⟩
  replace x_q := x_q.keep hb1
  replace x_r := x_r.keep hb1
  replace x_s := x_s.keep hb1
  replace x_t := x_t.keep hb1
  replace z_q := z_q.keep hb1
  replace z_r := z_r.keep hb1
  replace z_s := z_s.keep hb1
  replace z_t := z_t.keep hb1
  replace hb := bthen hb hb1
  clear hb1
  replace q_q0 := x_q.c0; replace q_q1 := x_q.c1; replace f_q0 := x_q.fr 0; replace f_q1 := x_q.fr 1
  replace q_r0 := x_r.c0; replace q_r1 := x_r.c1; replace f_r0 := x_r.fr 0; replace f_r1 := x_r.fr 1
  replace q_s0 := x_s.c0; replace q_s1 := x_s.c1; replace f_s0 := x_s.fr 0; replace f_s1 := x_s.fr 1
  replace q_t0 := x_t.c0; replace q_t1 := x_t.c1; replace f_t0 := x_t.fr 0; replace f_t1 := x_t.fr 1
  go_wp2_with fail
  with_reducible refine (ZOf_any (2) (by omega) (by omega)).mono ?_
  rintro e v20 ⟨A19, n19, c19, rfl, zb, hb1⟩
  replace x_q := x_q.keep hb1
  replace x_r := x_r.keep hb1
  replace x_s := x_s.keep hb1
  replace x_t := x_t.keep hb1
  replace z_q := z_q.keep hb1
  replace z_r := z_r.keep hb1
  replace z_s := z_s.keep hb1
  replace z_t := z_t.keep hb1
  replace za := za.keep hb1
  replace hb := bthen hb hb1
  clear hb1
  replace q_q0 := x_q.c0; replace q_q1 := x_q.c1; replace f_q0 := x_q.fr 0; replace f_q1 := x_q.fr 1
  replace q_r0 := x_r.c0; replace q_r1 := x_r.c1; replace f_r0 := x_r.fr 0; replace f_r1 := x_r.fr 1
  replace q_s0 := x_s.c0; replace q_s1 := x_s.c1; replace f_s0 := x_s.fr 0; replace f_s1 := x_s.fr 1
  replace q_t0 := x_t.c0; replace q_t1 := x_t.c1; replace f_t0 := x_t.fr 0; replace f_t1 := x_t.fr 1
  go_wp2_with fail
  with_reducible refine (ZRound_any za.zr zb.zr (by omega) 2 (by omega) (by omega) (by omega)).mono ?_
  rintro e v22 ⟨A21, n21, c21, rfl, z_u, hb1⟩
  replace x_q := x_q.keep hb1
  replace x_r := x_r.keep hb1
  replace x_s := x_s.keep hb1
  replace x_t := x_t.keep hb1
  replace z_q := z_q.keep hb1
  replace z_r := z_r.keep hb1
  replace z_s := z_s.keep hb1
  replace z_t := z_t.keep hb1
  replace za := za.keep hb1
  replace zb := zb.keep hb1
  replace hb := bthen hb hb1
  clear hb1
  replace q_q0 := x_q.c0; replace q_q1 := x_q.c1; replace f_q0 := x_q.fr 0; replace f_q1 := x_q.fr 1
  replace q_r0 := x_r.c0; replace q_r1 := x_r.c1; replace f_r0 := x_r.fr 0; replace f_r1 := x_r.fr 1
  replace q_s0 := x_s.c0; replace q_s1 := x_s.c1; replace f_s0 := x_s.fr 0; replace f_s1 := x_s.fr 1
  replace q_t0 := x_t.c0; replace q_t1 := x_t.c1; replace f_t0 := x_t.fr 0; replace f_t1 := x_t.fr 1
  rw [show roundI (-7) 2 = -3 from by decide] at z_u ⊢
  clear za zb
  go_wp2_with fail
  have hb1 := below_alloc v22 (.cells #[.bool (ngB (-3)), .slice A21 n21 c21] 24)
  have l_q_u := x_q.lt
  have l_r_u := x_r.lt
  have l_s_u := x_s.lt
  have l_t_u := x_t.lt
  have x_u := Bx.new v22 (ngB (-3)) A21 n21 c21
  have e_u : w.heap.size ≤ v22.heap.size := hb.size
  replace x_q := x_q.keep hb1
  replace x_r := x_r.keep hb1
  replace x_s := x_s.keep hb1
  replace x_t := x_t.keep hb1
  replace z_q := z_q.keep hb1
  replace z_r := z_r.keep hb1
  replace z_s := z_s.keep hb1
  replace z_t := z_t.keep hb1
  replace z_u := z_u.keep hb1
  replace hb := bthen hb hb1
  clear hb1
  replace q_q0 := x_q.c0; replace q_q1 := x_q.c1; replace f_q0 := x_q.fr 0; replace f_q1 := x_q.fr 1
  replace q_r0 := x_r.c0; replace q_r1 := x_r.c1; replace f_r0 := x_r.fr 0; replace f_r1 := x_r.fr 1
  replace q_s0 := x_s.c0; replace q_s1 := x_s.c1; replace f_s0 := x_s.fr 0; replace f_s1 := x_s.fr 1
  replace q_t0 := x_t.c0; replace q_t1 := x_t.c1; replace f_t0 := x_t.fr 0; replace f_t1 := x_t.fr 1
  clear q_q0 q_q1 f_q0 f_q1 q_r0 q_r1 f_r0 f_r1 q_s0 q_s1 f_s0 f_s1 q_t0 q_t1 f_t0 f_t1
  generalize v22.alloc (.cells #[.bool (ngB (-3)), .slice A21 n21 c21] 24) = v23 at *
  have q_q0 := x_q.c0; have q_q1 := x_q.c1; have f_q0 := x_q.fr 0; have f_q1 := x_q.fr 1
  have q_r0 := x_r.c0; have q_r1 := x_r.c1; have f_r0 := x_r.fr 0; have f_r1 := x_r.fr 1
  have q_s0 := x_s.c0; have q_s1 := x_s.c1; have f_s0 := x_s.fr 0; have f_s1 := x_s.fr 1
  have q_t0 := x_t.c0; have q_t1 := x_t.c1; have f_t0 := x_t.fr 0; have f_t1 := x_t.fr 1
  have q_u0 := x_u.c0; have q_u1 := x_u.c1; have f_u0 := x_u.fr 0; have f_u1 := x_u.fr 1
  go_wp2_with fail
  with_reducible refine (ZOf_any (7) (by omega) (by omega)).mono ?_
  rintro e v25 ⟨A24, n24, c24, rfl, za, hb1⟩
  replace x_q := x_q.keep hb1
  replace x_r := x_r.keep hb1
  replace x_s := x_s.keep hb1
  replace x_t := x_t.keep hb1
  replace x_u := x_u.keep hb1
  replace z_q := z_q.keep hb1
  replace z_r := z_r.keep hb1
  replace z_s := z_s.keep hb1
  replace z_t := z_t.keep hb1
  replace z_u := z_u.keep hb1
  replace hb := bthen hb hb1
  clear hb1
  replace q_q0 := x_q.c0; replace q_q1 := x_q.c1; replace f_q0 := x_q.fr 0; replace f_q1 := x_q.fr 1
  replace q_r0 := x_r.c0; replace q_r1 := x_r.c1; replace f_r0 := x_r.fr 0; replace f_r1 := x_r.fr 1
  replace q_s0 := x_s.c0; replace q_s1 := x_s.c1; replace f_s0 := x_s.fr 0; replace f_s1 := x_s.fr 1
  replace q_t0 := x_t.c0; replace q_t1 := x_t.c1; replace f_t0 := x_t.fr 0; replace f_t1 := x_t.fr 1
  replace q_u0 := x_u.c0; replace q_u1 := x_u.c1; replace f_u0 := x_u.fr 0; replace f_u1 := x_u.fr 1
  go_wp2_with fail
  with_reducible refine (ZOf_any (2) (by omega) (by omega)).mono ?_
  rintro e v27 ⟨A26, n26, c26, rfl, zb, hb1⟩
  replace x_q := x_q.keep hb1
  replace x_r := x_r.keep hb1
  replace x_s := x_s.keep hb1
  replace x_t := x_t.keep hb1
  replace x_u := x_u.keep hb1
  replace z_q := z_q.keep hb1
  replace z_r := z_r.keep hb1
  replace z_s := z_s.keep hb1
  replace z_t := z_t.keep hb1
  replace z_u := z_u.keep hb1
  replace za := za.keep hb1
  replace hb := bthen hb hb1
  clear hb1
  replace q_q0 := x_q.c0; replace q_q1 := x_q.c1; replace f_q0 := x_q.fr 0; replace f_q1 := x_q.fr 1
  replace q_r0 := x_r.c0; replace q_r1 := x_r.c1; replace f_r0 := x_r.fr 0; replace f_r1 := x_r.fr 1
  replace q_s0 := x_s.c0; replace q_s1 := x_s.c1; replace f_s0 := x_s.fr 0; replace f_s1 := x_s.fr 1
  replace q_t0 := x_t.c0; replace q_t1 := x_t.c1; replace f_t0 := x_t.fr 0; replace f_t1 := x_t.fr 1
  replace q_u0 := x_u.c0; replace q_u1 := x_u.c1; replace f_u0 := x_u.fr 0; replace f_u1 := x_u.fr 1
  go_wp2_with fail
  with_reducible refine (ZUp_any za.zr zb.zr (by omega) 2 (by omega) (by omega) (by omega)).mono ?_
  rintro e v29 ⟨A28, n28, c28, rfl, z_v, hb1⟩
  replace x_q := x_q.keep hb1
  replace x_r := x_r.keep hb1
  replace x_s := x_s.keep hb1
  replace x_t := x_t.keep hb1
  replace x_u := x_u.keep hb1
  replace z_q := z_q.keep hb1
  replace z_r := z_r.keep hb1
  replace z_s := z_s.keep hb1
  replace z_t := z_t.keep hb1
  replace z_u := z_u.keep hb1
  replace za := za.keep hb1
  replace zb := zb.keep hb1
  replace hb := bthen hb hb1
  clear hb1
  replace q_q0 := x_q.c0; replace q_q1 := x_q.c1; replace f_q0 := x_q.fr 0; replace f_q1 := x_q.fr 1
  replace q_r0 := x_r.c0; replace q_r1 := x_r.c1; replace f_r0 := x_r.fr 0; replace f_r1 := x_r.fr 1
  replace q_s0 := x_s.c0; replace q_s1 := x_s.c1; replace f_s0 := x_s.fr 0; replace f_s1 := x_s.fr 1
  replace q_t0 := x_t.c0; replace q_t1 := x_t.c1; replace f_t0 := x_t.fr 0; replace f_t1 := x_t.fr 1
  replace q_u0 := x_u.c0; replace q_u1 := x_u.c1; replace f_u0 := x_u.fr 0; replace f_u1 := x_u.fr 1
  rw [show upI (7) 2 = 4 from by decide] at z_v ⊢
  clear za zb
  go_wp2_with fail
  have hb1 := below_alloc v29 (.cells #[.bool (ngB (4)), .slice A28 n28 c28] 24)
  have l_q_v := x_q.lt
  have l_r_v := x_r.lt
  have l_s_v := x_s.lt
  have l_t_v := x_t.lt
  have l_u_v := x_u.lt
  have x_v := Bx.new v29 (ngB (4)) A28 n28 c28
  have e_v : w.heap.size ≤ v29.heap.size := hb.size
  replace x_q := x_q.keep hb1
  replace x_r := x_r.keep hb1
  replace x_s := x_s.keep hb1
  replace x_t := x_t.keep hb1
  replace x_u := x_u.keep hb1
  replace z_q := z_q.keep hb1
  replace z_r := z_r.keep hb1
  replace z_s := z_s.keep hb1
  replace z_t := z_t.keep hb1
  replace z_u := z_u.keep hb1
  replace z_v := z_v.keep hb1
  replace hb := bthen hb hb1
  clear hb1
  replace q_q0 := x_q.c0; replace q_q1 := x_q.c1; replace f_q0 := x_q.fr 0; replace f_q1 := x_q.fr 1
  replace q_r0 := x_r.c0; replace q_r1 := x_r.c1; replace f_r0 := x_r.fr 0; replace f_r1 := x_r.fr 1
  replace q_s0 := x_s.c0; replace q_s1 := x_s.c1; replace f_s0 := x_s.fr 0; replace f_s1 := x_s.fr 1
  replace q_t0 := x_t.c0; replace q_t1 := x_t.c1; replace f_t0 := x_t.fr 0; replace f_t1 := x_t.fr 1
  replace q_u0 := x_u.c0; replace q_u1 := x_u.c1; replace f_u0 := x_u.fr 0; replace f_u1 := x_u.fr 1
  clear q_q0 q_q1 f_q0 f_q1 q_r0 q_r1 f_r0 f_r1 q_s0 q_s1 f_s0 f_s1 q_t0 q_t1 f_t0 f_t1 q_u0 q_u1 f_u0 f_u1
  have hsz : (v29.alloc (.cells #[.bool (ngB (4)), .slice A28 n28 c28] 24)).heap.size = v29.heap.size + 1 := by simp
  generalize v29.alloc (.cells #[.bool (ngB (4)), .slice A28 n28 c28] 24) = v30 at *
  have HSZ := Lib.hid hsz; clear hsz
  have q_q0 := x_q.c0; have q_q1 := x_q.c1; have f_q0 := x_q.fr 0; have f_q1 := x_q.fr 1
  have q_r0 := x_r.c0; have q_r1 := x_r.c1; have f_r0 := x_r.fr 0; have f_r1 := x_r.fr 1
  have q_s0 := x_s.c0; have q_s1 := x_s.c1; have f_s0 := x_s.fr 0; have f_s1 := x_s.fr 1
  have q_t0 := x_t.c0; have q_t1 := x_t.c1; have f_t0 := x_t.fr 0; have f_t1 := x_t.fr 1
  have q_u0 := x_u.c0; have q_u1 := x_u.c1; have f_u0 := x_u.fr 0; have f_u1 := x_u.fr 1
  have q_v0 := x_v.c0; have q_v1 := x_v.c1; have f_v0 := x_v.fr 0; have f_v1 := x_v.fr 1
  have hb1 := below_alloc v30 (.cells #[.int .u64 9223372036854775808] 29)
  replace x_q := x_q.keep hb1
  replace x_r := x_r.keep hb1
  replace x_s := x_s.keep hb1
  replace x_t := x_t.keep hb1
  replace x_u := x_u.keep hb1
  replace x_v := x_v.keep hb1
  replace z_q := z_q.keep hb1
  replace z_r := z_r.keep hb1
  replace z_s := z_s.keep hb1
  replace z_t := z_t.keep hb1
  replace z_u := z_u.keep hb1
  replace z_v := z_v.keep hb1
  replace hb := bthen hb hb1
  clear hb1
  replace q_q0 := x_q.c0; replace q_q1 := x_q.c1; replace f_q0 := x_q.fr 0; replace f_q1 := x_q.fr 1
  replace q_r0 := x_r.c0; replace q_r1 := x_r.c1; replace f_r0 := x_r.fr 0; replace f_r1 := x_r.fr 1
  replace q_s0 := x_s.c0; replace q_s1 := x_s.c1; replace f_s0 := x_s.fr 0; replace f_s1 := x_s.fr 1
  replace q_t0 := x_t.c0; replace q_t1 := x_t.c1; replace f_t0 := x_t.fr 0; replace f_t1 := x_t.fr 1
  replace q_u0 := x_u.c0; replace q_u1 := x_u.c1; replace f_u0 := x_u.fr 0; replace f_u1 := x_u.fr 1
  replace q_v0 := x_v.c0; replace q_v1 := x_v.c1; replace f_v0 := x_v.fr 0; replace f_v1 := x_v.fr 1
  have u1 := lay1s v30 9223372036854775808 (lm_small (by omega) (by omega)) HSZ.out
  clear q_q0 q_q1 f_q0 f_q1 q_r0 q_r1 f_r0 f_r1 q_s0 q_s1 f_s0 f_s1 q_t0 q_t1 f_t0 f_t1 q_u0 q_u1 f_u0 f_u1 q_v0 q_v1 f_v0 f_v1
  generalize v30.alloc (.cells #[.int .u64 9223372036854775808] 29) = v31 at *
  have q_q0 := x_q.c0; have q_q1 := x_q.c1; have f_q0 := x_q.fr 0; have f_q1 := x_q.fr 1
  have q_r0 := x_r.c0; have q_r1 := x_r.c1; have f_r0 := x_r.fr 0; have f_r1 := x_r.fr 1
  have q_s0 := x_s.c0; have q_s1 := x_s.c1; have f_s0 := x_s.fr 0; have f_s1 := x_s.fr 1
  have q_t0 := x_t.c0; have q_t1 := x_t.c1; have f_t0 := x_t.fr 0; have f_t1 := x_t.fr 1
  have q_u0 := x_u.c0; have q_u1 := x_u.c1; have f_u0 := x_u.fr 0; have f_u1 := x_u.fr 1
  have q_v0 := x_v.c0; have q_v1 := x_v.c1; have f_v0 := x_v.fr 0; have f_v1 := x_v.fr 1
  have u2 : Zr _ false _ 1 1 _ 1 := ⟨_, u1, rfl, Nat.le_refl _⟩
  skip
  with_reducible refine (ZSmall_any u2 (by omega)).mono ?_
  rintro e v32 ⟨rfl, hb1⟩
  replace x_q := x_q.keep hb1
  replace x_r := x_r.keep hb1
  replace x_s := x_s.keep hb1
  replace x_t := x_t.keep hb1
  replace x_u := x_u.keep hb1
  replace x_v := x_v.keep hb1
  replace z_q := z_q.keep hb1
  replace z_r := z_r.keep hb1
  replace z_s := z_s.keep hb1
  replace z_t := z_t.keep hb1
  replace z_u := z_u.keep hb1
  replace z_v := z_v.keep hb1
  replace u1 := u1.go hb1
  replace hb := bthen hb hb1
  clear hb1
  replace q_q0 := x_q.c0; replace q_q1 := x_q.c1; replace f_q0 := x_q.fr 0; replace f_q1 := x_q.fr 1
  replace q_r0 := x_r.c0; replace q_r1 := x_r.c1; replace f_r0 := x_r.fr 0; replace f_r1 := x_r.fr 1
  replace q_s0 := x_s.c0; replace q_s1 := x_s.c1; replace f_s0 := x_s.fr 0; replace f_s1 := x_s.fr 1
  replace q_t0 := x_t.c0; replace q_t1 := x_t.c1; replace f_t0 := x_t.fr 0; replace f_t1 := x_t.fr 1
  replace q_u0 := x_u.c0; replace q_u1 := x_u.c1; replace f_u0 := x_u.fr 0; replace f_u1 := x_u.fr 1
  replace q_v0 := x_v.c0; replace q_v1 := x_v.c1; replace f_v0 := x_v.fr 0; replace f_v1 := x_v.fr 1
  rw [big_small.1, big_small.2]
  clear u2
  clear u1
  go_wp2_with fail
  with_reducible refine (ZText_any z_q.zr (by omega)).mono ?_
  rintro e v33 ⟨rfl, hb1⟩
  replace x_q := x_q.keep hb1
  replace x_r := x_r.keep hb1
  replace x_s := x_s.keep hb1
  replace x_t := x_t.keep hb1
  replace x_u := x_u.keep hb1
  replace x_v := x_v.keep hb1
  replace z_q := z_q.keep hb1
  replace z_r := z_r.keep hb1
  replace z_s := z_s.keep hb1
  replace z_t := z_t.keep hb1
  replace z_u := z_u.keep hb1
  replace z_v := z_v.keep hb1
  replace hb := bthen hb hb1
  clear hb1
  replace q_q0 := x_q.c0; replace q_q1 := x_q.c1; replace f_q0 := x_q.fr 0; replace f_q1 := x_q.fr 1
  replace q_r0 := x_r.c0; replace q_r1 := x_r.c1; replace f_r0 := x_r.fr 0; replace f_r1 := x_r.fr 1
  replace q_s0 := x_s.c0; replace q_s1 := x_s.c1; replace f_s0 := x_s.fr 0; replace f_s1 := x_s.fr 1
  replace q_t0 := x_t.c0; replace q_t1 := x_t.c1; replace f_t0 := x_t.fr 0; replace f_t1 := x_t.fr 1
  replace q_u0 := x_u.c0; replace q_u1 := x_u.c1; replace f_u0 := x_u.fr 0; replace f_u1 := x_u.fr 1
  replace q_v0 := x_v.c0; replace q_v1 := x_v.c1; replace f_v0 := x_v.fr 0; replace f_v1 := x_v.fr 1
  rw [tx_m4]
  go_wp2_with fail
  with_reducible refine (ZText_any z_r.zr (by omega)).mono ?_
  rintro e v34 ⟨rfl, hb1⟩
  replace x_q := x_q.keep hb1
  replace x_r := x_r.keep hb1
  replace x_s := x_s.keep hb1
  replace x_t := x_t.keep hb1
  replace x_u := x_u.keep hb1
  replace x_v := x_v.keep hb1
  replace z_q := z_q.keep hb1
  replace z_r := z_r.keep hb1
  replace z_s := z_s.keep hb1
  replace z_t := z_t.keep hb1
  replace z_u := z_u.keep hb1
  replace z_v := z_v.keep hb1
  replace hb := bthen hb hb1
  clear hb1
  replace q_q0 := x_q.c0; replace q_q1 := x_q.c1; replace f_q0 := x_q.fr 0; replace f_q1 := x_q.fr 1
  replace q_r0 := x_r.c0; replace q_r1 := x_r.c1; replace f_r0 := x_r.fr 0; replace f_r1 := x_r.fr 1
  replace q_s0 := x_s.c0; replace q_s1 := x_s.c1; replace f_s0 := x_s.fr 0; replace f_s1 := x_s.fr 1
  replace q_t0 := x_t.c0; replace q_t1 := x_t.c1; replace f_t0 := x_t.fr 0; replace f_t1 := x_t.fr 1
  replace q_u0 := x_u.c0; replace q_u1 := x_u.c1; replace f_u0 := x_u.fr 0; replace f_u1 := x_u.fr 1
  replace q_v0 := x_v.c0; replace q_v1 := x_v.c1; replace f_v0 := x_v.fr 0; replace f_v1 := x_v.fr 1
  rw [tx_1]
  go_wp2_with fail
  with_reducible refine (ZText_any z_s.zr (by omega)).mono ?_
  rintro e v35 ⟨rfl, hb1⟩
  replace x_q := x_q.keep hb1
  replace x_r := x_r.keep hb1
  replace x_s := x_s.keep hb1
  replace x_t := x_t.keep hb1
  replace x_u := x_u.keep hb1
  replace x_v := x_v.keep hb1
  replace z_q := z_q.keep hb1
  replace z_r := z_r.keep hb1
  replace z_s := z_s.keep hb1
  replace z_t := z_t.keep hb1
  replace z_u := z_u.keep hb1
  replace z_v := z_v.keep hb1
  replace hb := bthen hb hb1
  clear hb1
  replace q_q0 := x_q.c0; replace q_q1 := x_q.c1; replace f_q0 := x_q.fr 0; replace f_q1 := x_q.fr 1
  replace q_r0 := x_r.c0; replace q_r1 := x_r.c1; replace f_r0 := x_r.fr 0; replace f_r1 := x_r.fr 1
  replace q_s0 := x_s.c0; replace q_s1 := x_s.c1; replace f_s0 := x_s.fr 0; replace f_s1 := x_s.fr 1
  replace q_t0 := x_t.c0; replace q_t1 := x_t.c1; replace f_t0 := x_t.fr 0; replace f_t1 := x_t.fr 1
  replace q_u0 := x_u.c0; replace q_u1 := x_u.c1; replace f_u0 := x_u.fr 0; replace f_u1 := x_u.fr 1
  replace q_v0 := x_v.c0; replace q_v1 := x_v.c1; replace f_v0 := x_v.fr 0; replace f_v1 := x_v.fr 1
  rw [tx_4]
  go_wp2_with fail
  with_reducible refine (ZText_any z_t.zr (by omega)).mono ?_
  rintro e v36 ⟨rfl, hb1⟩
  replace x_q := x_q.keep hb1
  replace x_r := x_r.keep hb1
  replace x_s := x_s.keep hb1
  replace x_t := x_t.keep hb1
  replace x_u := x_u.keep hb1
  replace x_v := x_v.keep hb1
  replace z_q := z_q.keep hb1
  replace z_r := z_r.keep hb1
  replace z_s := z_s.keep hb1
  replace z_t := z_t.keep hb1
  replace z_u := z_u.keep hb1
  replace z_v := z_v.keep hb1
  replace hb := bthen hb hb1
  clear hb1
  replace q_q0 := x_q.c0; replace q_q1 := x_q.c1; replace f_q0 := x_q.fr 0; replace f_q1 := x_q.fr 1
  replace q_r0 := x_r.c0; replace q_r1 := x_r.c1; replace f_r0 := x_r.fr 0; replace f_r1 := x_r.fr 1
  replace q_s0 := x_s.c0; replace q_s1 := x_s.c1; replace f_s0 := x_s.fr 0; replace f_s1 := x_s.fr 1
  replace q_t0 := x_t.c0; replace q_t1 := x_t.c1; replace f_t0 := x_t.fr 0; replace f_t1 := x_t.fr 1
  replace q_u0 := x_u.c0; replace q_u1 := x_u.c1; replace f_u0 := x_u.fr 0; replace f_u1 := x_u.fr 1
  replace q_v0 := x_v.c0; replace q_v1 := x_v.c1; replace f_v0 := x_v.fr 0; replace f_v1 := x_v.fr 1
  rw [tx_1]
  go_wp2_with fail
  with_reducible refine (ZText_any z_u.zr (by omega)).mono ?_
  rintro e v37 ⟨rfl, hb1⟩
  replace x_q := x_q.keep hb1
  replace x_r := x_r.keep hb1
  replace x_s := x_s.keep hb1
  replace x_t := x_t.keep hb1
  replace x_u := x_u.keep hb1
  replace x_v := x_v.keep hb1
  replace z_q := z_q.keep hb1
  replace z_r := z_r.keep hb1
  replace z_s := z_s.keep hb1
  replace z_t := z_t.keep hb1
  replace z_u := z_u.keep hb1
  replace z_v := z_v.keep hb1
  replace hb := bthen hb hb1
  clear hb1
  replace q_q0 := x_q.c0; replace q_q1 := x_q.c1; replace f_q0 := x_q.fr 0; replace f_q1 := x_q.fr 1
  replace q_r0 := x_r.c0; replace q_r1 := x_r.c1; replace f_r0 := x_r.fr 0; replace f_r1 := x_r.fr 1
  replace q_s0 := x_s.c0; replace q_s1 := x_s.c1; replace f_s0 := x_s.fr 0; replace f_s1 := x_s.fr 1
  replace q_t0 := x_t.c0; replace q_t1 := x_t.c1; replace f_t0 := x_t.fr 0; replace f_t1 := x_t.fr 1
  replace q_u0 := x_u.c0; replace q_u1 := x_u.c1; replace f_u0 := x_u.fr 0; replace f_u1 := x_u.fr 1
  replace q_v0 := x_v.c0; replace q_v1 := x_v.c1; replace f_v0 := x_v.fr 0; replace f_v1 := x_v.fr 1
  rw [tx_m3]
  go_wp2_with fail
  with_reducible refine (ZText_any z_v.zr (by omega)).mono ?_
  rintro e v38 ⟨rfl, hb1⟩
  replace x_q := x_q.keep hb1
  replace x_r := x_r.keep hb1
  replace x_s := x_s.keep hb1
  replace x_t := x_t.keep hb1
  replace x_u := x_u.keep hb1
  replace x_v := x_v.keep hb1
  replace z_q := z_q.keep hb1
  replace z_r := z_r.keep hb1
  replace z_s := z_s.keep hb1
  replace z_t := z_t.keep hb1
  replace z_u := z_u.keep hb1
  replace z_v := z_v.keep hb1
  replace hb := bthen hb hb1
  clear hb1
  replace q_q0 := x_q.c0; replace q_q1 := x_q.c1; replace f_q0 := x_q.fr 0; replace f_q1 := x_q.fr 1
  replace q_r0 := x_r.c0; replace q_r1 := x_r.c1; replace f_r0 := x_r.fr 0; replace f_r1 := x_r.fr 1
  replace q_s0 := x_s.c0; replace q_s1 := x_s.c1; replace f_s0 := x_s.fr 0; replace f_s1 := x_s.fr 1
  replace q_t0 := x_t.c0; replace q_t1 := x_t.c1; replace f_t0 := x_t.fr 0; replace f_t1 := x_t.fr 1
  replace q_u0 := x_u.c0; replace q_u1 := x_u.c1; replace f_u0 := x_u.fr 0; replace f_u1 := x_u.fr 1
  replace q_v0 := x_v.c0; replace q_v1 := x_v.c1; replace f_v0 := x_v.fr 0; replace f_v1 := x_v.fr 1
  rw [tx_4]
  go_wp2_with fail
  with_reducible refine (ZOf_any (-5) (by omega) (by omega)).mono ?_
  rintro e v40 ⟨A39, n39, c39, rfl, za, hb1⟩
  replace x_q := x_q.keep hb1
  replace x_r := x_r.keep hb1
  replace x_s := x_s.keep hb1
  replace x_t := x_t.keep hb1
  replace x_u := x_u.keep hb1
  replace x_v := x_v.keep hb1
  replace z_q := z_q.keep hb1
  replace z_r := z_r.keep hb1
  replace z_s := z_s.keep hb1
  replace z_t := z_t.keep hb1
  replace z_u := z_u.keep hb1
  replace z_v := z_v.keep hb1
  replace hb := bthen hb hb1
  clear hb1
  replace q_q0 := x_q.c0; replace q_q1 := x_q.c1; replace f_q0 := x_q.fr 0; replace f_q1 := x_q.fr 1
  replace q_r0 := x_r.c0; replace q_r1 := x_r.c1; replace f_r0 := x_r.fr 0; replace f_r1 := x_r.fr 1
  replace q_s0 := x_s.c0; replace q_s1 := x_s.c1; replace f_s0 := x_s.fr 0; replace f_s1 := x_s.fr 1
  replace q_t0 := x_t.c0; replace q_t1 := x_t.c1; replace f_t0 := x_t.fr 0; replace f_t1 := x_t.fr 1
  replace q_u0 := x_u.c0; replace q_u1 := x_u.c1; replace f_u0 := x_u.fr 0; replace f_u1 := x_u.fr 1
  replace q_v0 := x_v.c0; replace q_v1 := x_v.c1; replace f_v0 := x_v.fr 0; replace f_v1 := x_v.fr 1
  go_wp2_with fail
  with_reducible refine (ZShr_any za.zr 1 2 (by omega) (by omega)).mono ?_
  rintro e v42 ⟨A41, n41, c41, rfl, z_w, hb1⟩
  replace x_q := x_q.keep hb1
  replace x_r := x_r.keep hb1
  replace x_s := x_s.keep hb1
  replace x_t := x_t.keep hb1
  replace x_u := x_u.keep hb1
  replace x_v := x_v.keep hb1
  replace z_q := z_q.keep hb1
  replace z_r := z_r.keep hb1
  replace z_s := z_s.keep hb1
  replace z_t := z_t.keep hb1
  replace z_u := z_u.keep hb1
  replace z_v := z_v.keep hb1
  replace za := za.keep hb1
  replace hb := bthen hb hb1
  clear hb1
  replace q_q0 := x_q.c0; replace q_q1 := x_q.c1; replace f_q0 := x_q.fr 0; replace f_q1 := x_q.fr 1
  replace q_r0 := x_r.c0; replace q_r1 := x_r.c1; replace f_r0 := x_r.fr 0; replace f_r1 := x_r.fr 1
  replace q_s0 := x_s.c0; replace q_s1 := x_s.c1; replace f_s0 := x_s.fr 0; replace f_s1 := x_s.fr 1
  replace q_t0 := x_t.c0; replace q_t1 := x_t.c1; replace f_t0 := x_t.fr 0; replace f_t1 := x_t.fr 1
  replace q_u0 := x_u.c0; replace q_u1 := x_u.c1; replace f_u0 := x_u.fr 0; replace f_u1 := x_u.fr 1
  replace q_v0 := x_v.c0; replace q_v1 := x_v.c1; replace f_v0 := x_v.fr 0; replace f_v1 := x_v.fr 1
  rw [show (-5 : Int) / 2 ^ sc 1 = -3 from by decide] at z_w ⊢
  go_wp2_with fail
  with_reducible refine (ZText_any z_w.zr (by omega)).mono ?_
  rintro e v43 ⟨rfl, hb1⟩
  replace x_q := x_q.keep hb1
  replace x_r := x_r.keep hb1
  replace x_s := x_s.keep hb1
  replace x_t := x_t.keep hb1
  replace x_u := x_u.keep hb1
  replace x_v := x_v.keep hb1
  replace z_q := z_q.keep hb1
  replace z_r := z_r.keep hb1
  replace z_s := z_s.keep hb1
  replace z_t := z_t.keep hb1
  replace z_u := z_u.keep hb1
  replace z_v := z_v.keep hb1
  replace za := za.keep hb1
  replace z_w := z_w.keep hb1
  replace hb := bthen hb hb1
  clear hb1
  replace q_q0 := x_q.c0; replace q_q1 := x_q.c1; replace f_q0 := x_q.fr 0; replace f_q1 := x_q.fr 1
  replace q_r0 := x_r.c0; replace q_r1 := x_r.c1; replace f_r0 := x_r.fr 0; replace f_r1 := x_r.fr 1
  replace q_s0 := x_s.c0; replace q_s1 := x_s.c1; replace f_s0 := x_s.fr 0; replace f_s1 := x_s.fr 1
  replace q_t0 := x_t.c0; replace q_t1 := x_t.c1; replace f_t0 := x_t.fr 0; replace f_t1 := x_t.fr 1
  replace q_u0 := x_u.c0; replace q_u1 := x_u.c1; replace f_u0 := x_u.fr 0; replace f_u1 := x_u.fr 1
  replace q_v0 := x_v.c0; replace q_v1 := x_v.c1; replace f_v0 := x_v.fr 0; replace f_v1 := x_v.fr 1
  rw [tx_m3]
  go_wp2
  go_ret
  exact ⟨rfl, hb⟩

end Go.Proofs.Ytcoidcbbdibnaaa
