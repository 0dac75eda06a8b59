/-
 ball: Times.
-/
import Derived.Test.YtdonaominffpnaaGreatDoorLpoint
import Derived.Test.YtdonaominffpnaaGreatDoorLnewn
import Derived.Test.YtdonaominffpnaaGreatDoorLclos
import Derived.Test.YtdonaominffpnaaGreatDoorEbox
namespace Go.Proofs.YtdonaominffpnaaGreatDoor
variable {K X Y : Int}
set_option maxRecDepth 100000
set_option maxHeartbeats 8000000
set_option linter.unusedVariables false
open Go.RowKit
theorem tm_neg (h : X ≤ Y) (hK : K < 0) : min (X * K) (Y * K) = Y * K ∧ max (X * K) (Y * K) = X * K := by
 have := Int.mul_le_mul_of_nonpos_right h (Int.le_of_lt hK)
 omega
theorem tm_pos (h : X ≤ Y) (hK : 0 ≤ K) : min (X * K) (Y * K) = X * K ∧ max (X * K) (Y * K) = Y * K := by
 have := Int.mul_le_mul_of_nonneg_right h hK
 omega
theorem Times_yes {b b2 : Bool} {A A2 : Option Addr} {n c n2 c2 : Nat} {q : Int} {j j2 : Nat} {w : World} (h : Zr w b A n c X j) (h2 : Zr w b2 A2 n2 c2 Y j2) {b3 : Bool} {A3 : Option Addr} {n3 c3 : Nat} {K : Int} {j3 : Nat} (h3 : Zr w b3 A3 n3 c3 K j3) (hv : 0 ≤ q ∧ q ≤ 2048 ∧ X ≤ Y) (hj : j ≤ 30) (hj2 : j2 ≤ 30) (hj3 : j3 ≤ 30) :
  Calls Tryz.prog 214 #[.agg #[.bool b, .slice A n c, .bool b2, .slice A2 n2 c2, .int .i64 q], .agg #[.bool b3, .slice A3 n3 c3]] w (OuL w (min (X * K) (Y * K)) (max (X * K) (Y * K)) q 60) := by
 have HR := Lib.hid (rB_yes hv)
 have i1 := sgnI_lt0 (X := K)
 obtain ⟨C, hC⟩ : ∃ C, sgnI K = C := ⟨_, rfl⟩
 rw [hC] at i1
 have HC := Lib.hid hC; clear hC
 rcases (show (C < 0 ∧ K < 0) ∨ (¬ C < 0 ∧ 0 ≤ K) by omega) with ⟨d1, hK⟩ | ⟨d1, hK⟩ <;> clear i1
 ·obtain ⟨e1, e2⟩ := tm_neg hv.2.2 hK
  rw [e1, e2]
  clear e1 e2 hv hK
  obtain ⟨M, hM⟩ : ∃ M, X * K = M := ⟨_, rfl⟩
  obtain ⟨N, hN⟩ : ∃ N, Y * K = N := ⟨_, rfl⟩
  rw [hM, hN]
  have HM := Lib.hid hM; have HN := Lib.hid hN; clear hM hN
  go_enter Tryz.func214, Tryz.ntmps214
  go_wp2_with fail
  refine al3c fun v1 hb x_a x_k x_r => ?_
  replace x_a := Lx.of x_a; replace x_k := Bx.of x_k; replace x_r := Lx.of x_r
  obtain ⟨h, h2, h3⟩ := mv3 hb h h2 h3
  have q_a := x_a.al
  have q_k := x_k.al
  have q_r := x_r.al
  go_wp2_with fail
  with_reducible refine (Right_any h h2 (by omega) (by omega)).mono ?_
  rintro e v2 ⟨rfl, hb1⟩
  obtain ⟨x_a, x_k, x_r, h, h2, h3, hb⟩ := mv7 hb1 x_a x_k x_r h h2 h3 hb
  clear hb1
  replace q_a := x_a.al
  replace q_k := x_k.al
  replace q_r := x_r.al
  rw [HR.out]
  go_upto_region 3 with fail
  have hv := Below.refl v2.heap.size v2
  have l_a_l := x_a.lt
  have l_k_l := x_k.lt
  have l_r_l := x_r.lt
  go_cut [6, 7] (fun s9 t9 wx => BnNew2 v2 M N 60 60 s9 t9 wx)
  case first =>
   go_region_held3 (fun w' => w'.cell? ⟨w.heap.size, 0, none⟩ = some (.bool b) ∧ w'.cell? ⟨w.heap.size, 1, none⟩ = some (.slice A n c) ∧ w'.cell? ⟨w.heap.size, 2, none⟩ = some (.bool b2) ∧ w'.cell? ⟨w.heap.size, 3, none⟩ = some (.slice A2 n2 c2) ∧ w'.cell? ⟨w.heap.size, 4, none⟩ = some (.int .i64 q) ∧ w'.cell? ⟨w.heap.size + 1, 0, none⟩ = some (.bool b3) ∧ w'.cell? ⟨w.heap.size + 1, 1, none⟩ = some (.slice A3 n3 c3))
    (first | (with_reducible exact ⟨x_a.c0, x_a.c1, x_a.c2, x_a.c3, x_a.c4, x_k.c0, x_k.c1⟩) | (with_reducible exact ⟨(x_a.alloc _).c0, (x_a.alloc _).c1, (x_a.alloc _).c2, (x_a.alloc _).c3, (x_a.alloc _).c4, (x_k.alloc _).c0, (x_k.alloc _).c1⟩) | (with_reducible exact ⟨((x_a.alloc _).alloc _).c0, ((x_a.alloc _).alloc _).c1, ((x_a.alloc _).alloc _).c2, ((x_a.alloc _).alloc _).c3, ((x_a.alloc _).alloc _).c4, ((x_k.alloc _).alloc _).c0, ((x_k.alloc _).alloc _).c1⟩) | (with_reducible exact ⟨(x_a.aside (by omega)).c0, (x_a.aside (by omega)).c1, (x_a.aside (by omega)).c2, (x_a.aside (by omega)).c3, (x_a.aside (by omega)).c4, (x_k.aside (by omega)).c0, (x_k.aside (by omega)).c1⟩) | (with_reducible exact ⟨((x_a.alloc _).aside (by omega)).c0, ((x_a.alloc _).aside (by omega)).c1, ((x_a.alloc _).aside (by omega)).c2, ((x_a.alloc _).aside (by omega)).c3, ((x_a.alloc _).aside (by omega)).c4, ((x_k.alloc _).aside (by omega)).c0, ((x_k.alloc _).aside (by omega)).c1⟩) | (with_reducible exact ⟨((x_a.aside (by omega)).alloc _).c0, ((x_a.aside (by omega)).alloc _).c1, ((x_a.aside (by omega)).alloc _).c2, ((x_a.aside (by omega)).alloc _).c3, ((x_a.aside (by omega)).alloc _).c4, ((x_k.aside (by omega)).alloc _).c0, ((x_k.aside (by omega)).alloc _).c1⟩) | (with_reducible exact ⟨(((x_a.alloc _).alloc _).aside (by omega)).c0, (((x_a.alloc _).alloc _).aside (by omega)).c1, (((x_a.alloc _).alloc _).aside (by omega)).c2, (((x_a.alloc _).alloc _).aside (by omega)).c3, (((x_a.alloc _).alloc _).aside (by omega)).c4, (((x_k.alloc _).alloc _).aside (by omega)).c0, (((x_k.alloc _).alloc _).aside (by omega)).c1⟩) | (with_reducible exact ⟨((x_a.aside (by omega)).aside (by omega)).c0, ((x_a.aside (by omega)).aside (by omega)).c1, ((x_a.aside (by omega)).aside (by omega)).c2, ((x_a.aside (by omega)).aside (by omega)).c3, ((x_a.aside (by omega)).aside (by omega)).c4, ((x_k.aside (by omega)).aside (by omega)).c0, ((x_k.aside (by omega)).aside (by omega)).c1⟩) | (with_reducible exact ⟨(((x_a.alloc _).aside (by omega)).aside (by omega)).c0, (((x_a.alloc _).aside (by omega)).aside (by omega)).c1, (((x_a.alloc _).aside (by omega)).aside (by omega)).c2, (((x_a.alloc _).aside (by omega)).aside (by omega)).c3, (((x_a.alloc _).aside (by omega)).aside (by omega)).c4, (((x_k.alloc _).aside (by omega)).aside (by omega)).c0, (((x_k.alloc _).aside (by omega)).aside (by omega)).c1⟩) | (with_reducible exact ⟨((((x_a.alloc _).alloc _).aside (by omega)).aside (by omega)).c0, ((((x_a.alloc _).alloc _).aside (by omega)).aside (by omega)).c1, ((((x_a.alloc _).alloc _).aside (by omega)).aside (by omega)).c2, ((((x_a.alloc _).alloc _).aside (by omega)).aside (by omega)).c3, ((((x_a.alloc _).alloc _).aside (by omega)).aside (by omega)).c4, ((((x_k.alloc _).alloc _).aside (by omega)).aside (by omega)).c0, ((((x_k.alloc _).alloc _).aside (by omega)).aside (by omega)).c1⟩) | go_keep)
    (first | (go_at_call 20; (with_reducible refine (ZMul_any h.drw h3.drw 60 (by omega) (by omega)).mono ?_); rintro e v3 ⟨A5, n5, c5, rfl, z5, hb1⟩; replace hb1 := undrew hb1; (try replace x_n1 := x_n1.keep hb1); (try replace x_n2 := x_n2.keep hb1); replace hv := bthen hv hb1; have hvs_v3 := hv.size; obtain ⟨x_a, x_k, x_r, h, h2, h3, hb⟩ := mv7 hb1 x_a x_k x_r h h2 h3 hb; clear hb1; replace q_a := x_a.al; replace q_k := x_k.al; replace q_r := x_r.al; rw [HM.out] at z5 ⊢; (try (obtain ⟨q_n10, f_n10, q_n11, f_n11⟩ := x_n1.al; have lt_n1 := x_n1.lt; have y_n1 := x_n1.alloc (.cells #[.bool false, .slice none 0 0] 24); have qy_n10 := y_n1.c0; have fy_n10 := y_n1.fr 0; have qy_n11 := y_n1.c1; have fy_n11 := y_n1.fr 1)); (try (obtain ⟨q_n20, f_n20, q_n21, f_n21⟩ := x_n2.al; have lt_n2 := x_n2.lt; have y_n2 := x_n2.alloc (.cells #[.bool false, .slice none 0 0] 24); have qy_n20 := y_n2.c0; have fy_n20 := y_n2.fr 0; have qy_n21 := y_n2.c1; have fy_n21 := y_n2.fr 1))) | (go_at_call 20; (with_reducible refine (ZMul_any (h.keep (below_alloc v2 (.cells #[.bool false, .slice none 0 0] 24))).drw (h3.keep (below_alloc v2 (.cells #[.bool false, .slice none 0 0] 24))).drw 60 (by omega) (by omega)).mono ?_); rintro e v3 ⟨A5, n5, c5, rfl, z5, hb1⟩; replace hb1 := undrew hb1; (first | (have lt_n := x_n1.lt; replace x_n1 := x_n1.keep (bthen (below_alloc v2 (.cells #[.bool false, .slice none 0 0] 24)) hb1); have x_n2 := (Bx.new v2 false none 0 0).keep hb1) | (have x_n1 := (Bx.new v2 false none 0 0).keep hb1)); replace hb1 := bthen (below_alloc v2 (.cells #[.bool false, .slice none 0 0] 24)) hb1; replace hv := bthen hv hb1; have hvs_v3 := hv.size; obtain ⟨x_a, x_k, x_r, h, h2, h3, hb⟩ := mv7 hb1 x_a x_k x_r h h2 h3 hb; clear hb1; replace q_a := x_a.al; replace q_k := x_k.al; replace q_r := x_r.al; rw [HM.out] at z5 ⊢; (try (obtain ⟨q_n10, f_n10, q_n11, f_n11⟩ := x_n1.al; have lt_n1 := x_n1.lt; have y_n1 := x_n1.alloc (.cells #[.bool false, .slice none 0 0] 24); have qy_n10 := y_n1.c0; have fy_n10 := y_n1.fr 0; have qy_n11 := y_n1.c1; have fy_n11 := y_n1.fr 1)); (try (obtain ⟨q_n20, f_n20, q_n21, f_n21⟩ := x_n2.al; have lt_n2 := x_n2.lt; have y_n2 := x_n2.alloc (.cells #[.bool false, .slice none 0 0] 24); have qy_n20 := y_n2.c0; have fy_n20 := y_n2.fr 0; have qy_n21 := y_n2.c1; have fy_n21 := y_n2.fr 1))) | (go_at_call 20; (with_reducible refine (ZMul_any (h.keep (below_alloc2 v2 (.cells #[.bool false, .slice none 0 0] 24) (.cells #[.bool false, .slice none 0 0] 24))).drw (h3.keep (below_alloc2 v2 (.cells #[.bool false, .slice none 0 0] 24) (.cells #[.bool false, .slice none 0 0] 24))).drw 60 (by omega) (by omega)).mono ?_); rintro e v3 ⟨A5, n5, c5, rfl, z5, hb1⟩; replace hb1 := undrew hb1; have x_n1 := ((Bx.new v2 false none 0 0).alloc (.cells #[.bool false, .slice none 0 0] 24)).keep hb1; have x_n2 := (Bx.at_size (alloc_size v2 (.cells #[.bool false, .slice none 0 0] 24)) : Bx ((v2.alloc (.cells #[.bool false, .slice none 0 0] 24)).alloc (.cells #[.bool false, .slice none 0 0] 24)) (v2.heap.size + 1) false none 0 0).keep hb1; replace hb1 := bthen (below_alloc2 v2 (.cells #[.bool false, .slice none 0 0] 24) (.cells #[.bool false, .slice none 0 0] 24)) hb1; replace hv := bthen hv hb1; have hvs_v3 := hv.size; obtain ⟨x_a, x_k, x_r, h, h2, h3, hb⟩ := mv7 hb1 x_a x_k x_r h h2 h3 hb; clear hb1; replace q_a := x_a.al; replace q_k := x_k.al; replace q_r := x_r.al; rw [HM.out] at z5 ⊢; (try (obtain ⟨q_n10, f_n10, q_n11, f_n11⟩ := x_n1.al; have lt_n1 := x_n1.lt; have y_n1 := x_n1.alloc (.cells #[.bool false, .slice none 0 0] 24); have qy_n10 := y_n1.c0; have fy_n10 := y_n1.fr 0; have qy_n11 := y_n1.c1; have fy_n11 := y_n1.fr 1)); (try (obtain ⟨q_n20, f_n20, q_n21, f_n21⟩ := x_n2.al; have lt_n2 := x_n2.lt; have y_n2 := x_n2.alloc (.cells #[.bool false, .slice none 0 0] 24); have qy_n20 := y_n2.c0; have fy_n20 := y_n2.fr 0; have qy_n21 := y_n2.c1; have fy_n21 := y_n2.fr 1))) | (go_at_call 20; (with_reducible refine (ZMul_any h2 h3 60 (by omega) (by omega)).mono ?_); rintro e v4 ⟨A6, n6, c6, rfl, z6, hb1⟩; (try replace x_n1 := x_n1.keep hb1); (try replace x_n2 := x_n2.keep hb1); replace hv := bthen hv hb1; have hvs_v4 := hv.size; obtain ⟨x_a, x_k, x_r, h, h2, h3, z5, hb⟩ := mv8 hb1 x_a x_k x_r h h2 h3 z5 hb; clear hb1; replace q_a := x_a.al; replace q_k := x_k.al; replace q_r := x_r.al; rw [HN.out] at z6 ⊢; (try (obtain ⟨q_n10, f_n10, q_n11, f_n11⟩ := x_n1.al; have lt_n1 := x_n1.lt; have y_n1 := x_n1.alloc (.cells #[.bool false, .slice none 0 0] 24); have qy_n10 := y_n1.c0; have fy_n10 := y_n1.fr 0; have qy_n11 := y_n1.c1; have fy_n11 := y_n1.fr 1)); (try (obtain ⟨q_n20, f_n20, q_n21, f_n21⟩ := x_n2.al; have lt_n2 := x_n2.lt; have y_n2 := x_n2.alloc (.cells #[.bool false, .slice none 0 0] 24); have qy_n20 := y_n2.c0; have fy_n20 := y_n2.fr 0; have qy_n21 := y_n2.c1; have fy_n21 := y_n2.fr 1))) | (go_at_call 20; (with_reducible refine (ZMul_any (h2.keep (below_alloc v3 (.cells #[.bool false, .slice none 0 0] 24))) (h3.keep (below_alloc v3 (.cells #[.bool false, .slice none 0 0] 24))) 60 (by omega) (by omega)).mono ?_); rintro e v4 ⟨A6, n6, c6, rfl, z6, hb1⟩; (first | (have lt_n := x_n1.lt; replace x_n1 := x_n1.keep (bthen (below_alloc v3 (.cells #[.bool false, .slice none 0 0] 24)) hb1); have x_n2 := (Bx.new v3 false none 0 0).keep hb1) | (have x_n1 := (Bx.new v3 false none 0 0).keep hb1)); replace hb1 := bthen (below_alloc v3 (.cells #[.bool false, .slice none 0 0] 24)) hb1; replace hv := bthen hv hb1; have hvs_v4 := hv.size; obtain ⟨x_a, x_k, x_r, h, h2, h3, z5, hb⟩ := mv8 hb1 x_a x_k x_r h h2 h3 z5 hb; clear hb1; replace q_a := x_a.al; replace q_k := x_k.al; replace q_r := x_r.al; rw [HN.out] at z6 ⊢; (try (obtain ⟨q_n10, f_n10, q_n11, f_n11⟩ := x_n1.al; have lt_n1 := x_n1.lt; have y_n1 := x_n1.alloc (.cells #[.bool false, .slice none 0 0] 24); have qy_n10 := y_n1.c0; have fy_n10 := y_n1.fr 0; have qy_n11 := y_n1.c1; have fy_n11 := y_n1.fr 1)); (try (obtain ⟨q_n20, f_n20, q_n21, f_n21⟩ := x_n2.al; have lt_n2 := x_n2.lt; have y_n2 := x_n2.alloc (.cells #[.bool false, .slice none 0 0] 24); have qy_n20 := y_n2.c0; have fy_n20 := y_n2.fr 0; have qy_n21 := y_n2.c1; have fy_n21 := y_n2.fr 1))) | (go_at_call 20; (with_reducible refine (ZMul_any (h2.keep (below_alloc2 v3 (.cells #[.bool false, .slice none 0 0] 24) (.cells #[.bool false, .slice none 0 0] 24))) (h3.keep (below_alloc2 v3 (.cells #[.bool false, .slice none 0 0] 24) (.cells #[.bool false, .slice none 0 0] 24))) 60 (by omega) (by omega)).mono ?_); rintro e v4 ⟨A6, n6, c6, rfl, z6, hb1⟩; have x_n1 := ((Bx.new v3 false none 0 0).alloc (.cells #[.bool false, .slice none 0 0] 24)).keep hb1; have x_n2 := (Bx.at_size (alloc_size v3 (.cells #[.bool false, .slice none 0 0] 24)) : Bx ((v3.alloc (.cells #[.bool false, .slice none 0 0] 24)).alloc (.cells #[.bool false, .slice none 0 0] 24)) (v3.heap.size + 1) false none 0 0).keep hb1; replace hb1 := bthen (below_alloc2 v3 (.cells #[.bool false, .slice none 0 0] 24) (.cells #[.bool false, .slice none 0 0] 24)) hb1; replace hv := bthen hv hb1; have hvs_v4 := hv.size; obtain ⟨x_a, x_k, x_r, h, h2, h3, z5, hb⟩ := mv8 hb1 x_a x_k x_r h h2 h3 z5 hb; clear hb1; replace q_a := x_a.al; replace q_k := x_k.al; replace q_r := x_r.al; rw [HN.out] at z6 ⊢; (try (obtain ⟨q_n10, f_n10, q_n11, f_n11⟩ := x_n1.al; have lt_n1 := x_n1.lt; have y_n1 := x_n1.alloc (.cells #[.bool false, .slice none 0 0] 24); have qy_n10 := y_n1.c0; have fy_n10 := y_n1.fr 0; have qy_n11 := y_n1.c1; have fy_n11 := y_n1.fr 1)); (try (obtain ⟨q_n20, f_n20, q_n21, f_n21⟩ := x_n2.al; have lt_n2 := x_n2.lt; have y_n2 := x_n2.alloc (.cells #[.bool false, .slice none 0 0] 24); have qy_n20 := y_n2.c0; have fy_n20 := y_n2.fr 0; have qy_n21 := y_n2.c1; have fy_n21 := y_n2.fr 1))))
   all_goals go_wp2_with fail
   all_goals go_meet
   all_goals first | (with_reducible exact BnNew2.ll hv z5 z6) | (with_reducible exact BnNew2.mm hv z5 z6) | (with_reducible exact BnNew2.el hv x_n1 (by omega) z5 z6) | (with_reducible exact BnNew2.le hv x_n1 (by omega) z5 z6) | (with_reducible exact BnNew2.gl hv x_n1 (by omega) z5 z6) | (with_reducible exact BnNew2.lg hv x_n1 (by omega) z5 z6) | (with_reducible exact BnNew2.el hv x_n2 (by omega) z5 z6) | (with_reducible exact BnNew2.le hv x_n2 (by omega) z5 z6) | (with_reducible exact BnNew2.gl hv x_n2 (by omega) z5 z6) | (with_reducible exact BnNew2.lg hv x_n2 (by omega) z5 z6) | (with_reducible exact BnNew2.ee hv x_n1 (by omega) x_n2 (by omega) (by omega) z5 z6) | (with_reducible exact BnNew2.ff hv x_n1 (by omega) x_n2 (by omega) (by omega) z5 z6) | (with_reducible exact BnNew2.ee hv x_n2 (by omega) x_n1 (by omega) (by omega) z5 z6) | (with_reducible exact BnNew2.ff hv x_n2 (by omega) x_n1 (by omega) (by omega) z5 z6)
  case rest =>
   obtain ⟨g5, g6, Ax7, nx7, cx7, Ay7, ny7, cy7, rfl, rfl, ne_l, x_l, x_u, z_l, z_u, e_l, e_u, hb1⟩ := hcut
   clear hv
   obtain ⟨x_a, x_k, x_r, h, h2, h3, hb⟩ := mv7 hb1 x_a x_k x_r h h2 h3 hb
   clear hb1
   replace q_a := x_a.al
   replace q_k := x_k.al
   replace q_r := x_r.al
   clear q_a q_k q_r
   generalize wc = v8 at *
   have q_a := x_a.al
   have q_k := x_k.al
   have q_r := x_r.al
   have q_l := x_l.al
   have q_u := x_u.al
   go_wp2_with fail
   with_reducible refine (ZSign_any h3 (by omega)).mono ?_
   rintro e v9 ⟨rfl, hb1⟩
   obtain ⟨x_a, x_k, x_r, x_l, x_u, h, h2, h3, z_l⟩ := mv9 hb1 x_a x_k x_r x_l x_u h h2 h3 z_l
   obtain ⟨z_u, hb⟩ := mv2 hb1 z_u hb
   clear hb1
   replace q_a := x_a.al
   replace q_k := x_k.al
   replace q_r := x_r.al
   replace q_l := x_l.al
   replace q_u := x_u.al
   rw [HC.out]
   go_wp2
   replace x_a := x_a.aside (b' := (ngB N)) (A' := Ay7) (n' := ny7) (c' := cy7) (g := g5) (by omega)
   replace x_k := x_k.aside (b' := (ngB N)) (A' := Ay7) (n' := ny7) (c' := cy7) (g := g5) (by omega)
   replace x_r := x_r.aside (b' := (ngB N)) (A' := Ay7) (n' := ny7) (c' := cy7) (g := g5) (by omega)
   replace x_u := x_u.aside (b' := (ngB N)) (A' := Ay7) (n' := ny7) (c' := cy7) (g := g5) (by omega)
   replace h := h.put (b' := (ngB N)) (A' := Ay7) (n' := ny7) (c' := cy7) x_l
   replace h2 := h2.put (b' := (ngB N)) (A' := Ay7) (n' := ny7) (c' := cy7) x_l
   replace h3 := h3.put (b' := (ngB N)) (A' := Ay7) (n' := ny7) (c' := cy7) x_l
   replace z_l := z_l.put (b' := (ngB N)) (A' := Ay7) (n' := ny7) (c' := cy7) x_l
   replace z_u := z_u.put (b' := (ngB N)) (A' := Ay7) (n' := ny7) (c' := cy7) x_l
   replace hb := put_below (g := g5) hb (by omega) (.bool (ngB N)) (.slice Ay7 ny7 cy7)
   replace x_l := x_l.put (ngB N) Ay7 ny7 cy7
   clear q_a q_k q_r q_l q_u
   generalize (v9.setCell ⟨g5, 0, none⟩ (.bool (ngB N))).setCell ⟨g5, 1, none⟩ (.slice Ay7 ny7 cy7) = v10 at *
   have q_a := x_a.al
   have q_k := x_k.al
   have q_r := x_r.al
   have q_l := x_l.al
   have q_u := x_u.al
   replace x_a := x_a.aside (b' := (ngB M)) (A' := Ax7) (n' := nx7) (c' := cx7) (g := g6) (by omega)
   replace x_k := x_k.aside (b' := (ngB M)) (A' := Ax7) (n' := nx7) (c' := cx7) (g := g6) (by omega)
   replace x_r := x_r.aside (b' := (ngB M)) (A' := Ax7) (n' := nx7) (c' := cx7) (g := g6) (by omega)
   replace x_l := x_l.aside (b' := (ngB M)) (A' := Ax7) (n' := nx7) (c' := cx7) (g := g6) (by omega)
   replace h := h.put (b' := (ngB M)) (A' := Ax7) (n' := nx7) (c' := cx7) x_u
   replace h2 := h2.put (b' := (ngB M)) (A' := Ax7) (n' := nx7) (c' := cx7) x_u
   replace h3 := h3.put (b' := (ngB M)) (A' := Ax7) (n' := nx7) (c' := cx7) x_u
   replace z_l := z_l.put (b' := (ngB M)) (A' := Ax7) (n' := nx7) (c' := cx7) x_u
   replace z_u := z_u.put (b' := (ngB M)) (A' := Ax7) (n' := nx7) (c' := cx7) x_u
   replace hb := put_below (g := g6) hb (by omega) (.bool (ngB M)) (.slice Ax7 nx7 cx7)
   replace x_u := x_u.put (ngB M) Ax7 nx7 cx7
   clear q_a q_k q_r q_l q_u
   generalize (v10.setCell ⟨g6, 0, none⟩ (.bool (ngB M))).setCell ⟨g6, 1, none⟩ (.slice Ax7 nx7 cx7) = v11 at *
   have q_a := x_a.al
   have q_k := x_k.al
   have q_r := x_r.al
   have q_l := x_l.al
   have q_u := x_u.al
   clear q_a q_k q_r q_l q_u
   refine x_r.st fun v12 hs hx => ?_
   obtain ⟨x_a, x_k, x_l, x_u, h, h2, h3, z_l, z_u⟩ := ms9 hs ⟨by omega, by omega, by omega, by omega, trivial, trivial, trivial, trivial, trivial⟩ x_a x_k x_l x_u h h2 h3 z_l z_u
   replace hb := Ms.ms hs (by omega) hb
   replace x_r := hx; clear hx hs
   have q_a := x_a.al
   have q_k := x_k.al
   have q_r := x_r.al
   have q_l := x_l.al
   have q_u := x_u.al
   skip
   refine bodyPost_ret (v := .tuple #[.agg #[.bool (ngB N), .slice Ay7 ny7 cy7, .bool (ngB M), .slice Ax7 nx7 cx7, .int .i64 q], .int .i64 0]) (by simp [results, Tryz.results214, go_sem, q_r]) rfl ?_
   exact ⟨_, _, _, _, _, _, rfl, z_u, z_l, hb⟩
 ·obtain ⟨e1, e2⟩ := tm_pos hv.2.2 hK
  rw [e1, e2]
  clear e1 e2 hv hK
  obtain ⟨M, hM⟩ : ∃ M, X * K = M := ⟨_, rfl⟩
  obtain ⟨N, hN⟩ : ∃ N, Y * K = N := ⟨_, rfl⟩
  rw [hM, hN]
  have HM := Lib.hid hM; have HN := Lib.hid hN; clear hM hN
  go_enter Tryz.func214, Tryz.ntmps214
  go_wp2_with fail
  refine al3c fun v1 hb x_a x_k x_r => ?_
  replace x_a := Lx.of x_a; replace x_k := Bx.of x_k; replace x_r := Lx.of x_r
  obtain ⟨h, h2, h3⟩ := mv3 hb h h2 h3
  have q_a := x_a.al
  have q_k := x_k.al
  have q_r := x_r.al
  go_wp2_with fail
  with_reducible refine (Right_any h h2 (by omega) (by omega)).mono ?_
  rintro e v2 ⟨rfl, hb1⟩
  obtain ⟨x_a, x_k, x_r, h, h2, h3, hb⟩ := mv7 hb1 x_a x_k x_r h h2 h3 hb
  clear hb1
  replace q_a := x_a.al
  replace q_k := x_k.al
  replace q_r := x_r.al
  rw [HR.out]
  go_upto_region 3 with fail
  have hv := Below.refl v2.heap.size v2
  have l_a_l := x_a.lt
  have l_k_l := x_k.lt
  have l_r_l := x_r.lt
  go_cut [6, 7] (fun s9 t9 wx => BnNew2 v2 M N 60 60 s9 t9 wx)
  case first =>
   go_region_held3 (fun w' => w'.cell? ⟨w.heap.size, 0, none⟩ = some (.bool b) ∧ w'.cell? ⟨w.heap.size, 1, none⟩ = some (.slice A n c) ∧ w'.cell? ⟨w.heap.size, 2, none⟩ = some (.bool b2) ∧ w'.cell? ⟨w.heap.size, 3, none⟩ = some (.slice A2 n2 c2) ∧ w'.cell? ⟨w.heap.size, 4, none⟩ = some (.int .i64 q) ∧ w'.cell? ⟨w.heap.size + 1, 0, none⟩ = some (.bool b3) ∧ w'.cell? ⟨w.heap.size + 1, 1, none⟩ = some (.slice A3 n3 c3))
    (first | (with_reducible exact ⟨x_a.c0, x_a.c1, x_a.c2, x_a.c3, x_a.c4, x_k.c0, x_k.c1⟩) | (with_reducible exact ⟨(x_a.alloc _).c0, (x_a.alloc _).c1, (x_a.alloc _).c2, (x_a.alloc _).c3, (x_a.alloc _).c4, (x_k.alloc _).c0, (x_k.alloc _).c1⟩) | (with_reducible exact ⟨((x_a.alloc _).alloc _).c0, ((x_a.alloc _).alloc _).c1, ((x_a.alloc _).alloc _).c2, ((x_a.alloc _).alloc _).c3, ((x_a.alloc _).alloc _).c4, ((x_k.alloc _).alloc _).c0, ((x_k.alloc _).alloc _).c1⟩) | (with_reducible exact ⟨(x_a.aside (by omega)).c0, (x_a.aside (by omega)).c1, (x_a.aside (by omega)).c2, (x_a.aside (by omega)).c3, (x_a.aside (by omega)).c4, (x_k.aside (by omega)).c0, (x_k.aside (by omega)).c1⟩) | (with_reducible exact ⟨((x_a.alloc _).aside (by omega)).c0, ((x_a.alloc _).aside (by omega)).c1, ((x_a.alloc _).aside (by omega)).c2, ((x_a.alloc _).aside (by omega)).c3, ((x_a.alloc _).aside (by omega)).c4, ((x_k.alloc _).aside (by omega)).c0, ((x_k.alloc _).aside (by omega)).c1⟩) | (with_reducible exact ⟨((x_a.aside (by omega)).alloc _).c0, ((x_a.aside (by omega)).alloc _).c1, ((x_a.aside (by omega)).alloc _).c2, ((x_a.aside (by omega)).alloc _).c3, ((x_a.aside (by omega)).alloc _).c4, ((x_k.aside (by omega)).alloc _).c0, ((x_k.aside (by omega)).alloc _).c1⟩) | (with_reducible exact ⟨(((x_a.alloc _).alloc _).aside (by omega)).c0, (((x_a.alloc _).alloc _).aside (by omega)).c1, (((x_a.alloc _).alloc _).aside (by omega)).c2, (((x_a.alloc _).alloc _).aside (by omega)).c3, (((x_a.alloc _).alloc _).aside (by omega)).c4, (((x_k.alloc _).alloc _).aside (by omega)).c0, (((x_k.alloc _).alloc _).aside (by omega)).c1⟩) | (with_reducible exact ⟨((x_a.aside (by omega)).aside (by omega)).c0, ((x_a.aside (by omega)).aside (by omega)).c1, ((x_a.aside (by omega)).aside (by omega)).c2, ((x_a.aside (by omega)).aside (by omega)).c3, ((x_a.aside (by omega)).aside (by omega)).c4, ((x_k.aside (by omega)).aside (by omega)).c0, ((x_k.aside (by omega)).aside (by omega)).c1⟩) | (with_reducible exact ⟨(((x_a.alloc _).aside (by omega)).aside (by omega)).c0, (((x_a.alloc _).aside (by omega)).aside (by omega)).c1, (((x_a.alloc _).aside (by omega)).aside (by omega)).c2, (((x_a.alloc _).aside (by omega)).aside (by omega)).c3, (((x_a.alloc _).aside (by omega)).aside (by omega)).c4, (((x_k.alloc _).aside (by omega)).aside (by omega)).c0, (((x_k.alloc _).aside (by omega)).aside (by omega)).c1⟩) | (with_reducible exact ⟨((((x_a.alloc _).alloc _).aside (by omega)).aside (by omega)).c0, ((((x_a.alloc _).alloc _).aside (by omega)).aside (by omega)).c1, ((((x_a.alloc _).alloc _).aside (by omega)).aside (by omega)).c2, ((((x_a.alloc _).alloc _).aside (by omega)).aside (by omega)).c3, ((((x_a.alloc _).alloc _).aside (by omega)).aside (by omega)).c4, ((((x_k.alloc _).alloc _).aside (by omega)).aside (by omega)).c0, ((((x_k.alloc _).alloc _).aside (by omega)).aside (by omega)).c1⟩) | go_keep)
    (first | (go_at_call 20; (with_reducible refine (ZMul_any h.drw h3.drw 60 (by omega) (by omega)).mono ?_); rintro e v3 ⟨A5, n5, c5, rfl, z5, hb1⟩; replace hb1 := undrew hb1; (try replace x_n1 := x_n1.keep hb1); (try replace x_n2 := x_n2.keep hb1); replace hv := bthen hv hb1; have hvs_v3 := hv.size; obtain ⟨x_a, x_k, x_r, h, h2, h3, hb⟩ := mv7 hb1 x_a x_k x_r h h2 h3 hb; clear hb1; replace q_a := x_a.al; replace q_k := x_k.al; replace q_r := x_r.al; rw [HM.out] at z5 ⊢; (try (obtain ⟨q_n10, f_n10, q_n11, f_n11⟩ := x_n1.al; have lt_n1 := x_n1.lt; have y_n1 := x_n1.alloc (.cells #[.bool false, .slice none 0 0] 24); have qy_n10 := y_n1.c0; have fy_n10 := y_n1.fr 0; have qy_n11 := y_n1.c1; have fy_n11 := y_n1.fr 1)); (try (obtain ⟨q_n20, f_n20, q_n21, f_n21⟩ := x_n2.al; have lt_n2 := x_n2.lt; have y_n2 := x_n2.alloc (.cells #[.bool false, .slice none 0 0] 24); have qy_n20 := y_n2.c0; have fy_n20 := y_n2.fr 0; have qy_n21 := y_n2.c1; have fy_n21 := y_n2.fr 1))) | (go_at_call 20; (with_reducible refine (ZMul_any (h.keep (below_alloc v2 (.cells #[.bool false, .slice none 0 0] 24))).drw (h3.keep (below_alloc v2 (.cells #[.bool false, .slice none 0 0] 24))).drw 60 (by omega) (by omega)).mono ?_); rintro e v3 ⟨A5, n5, c5, rfl, z5, hb1⟩; replace hb1 := undrew hb1; (first | (have lt_n := x_n1.lt; replace x_n1 := x_n1.keep (bthen (below_alloc v2 (.cells #[.bool false, .slice none 0 0] 24)) hb1); have x_n2 := (Bx.new v2 false none 0 0).keep hb1) | (have x_n1 := (Bx.new v2 false none 0 0).keep hb1)); replace hb1 := bthen (below_alloc v2 (.cells #[.bool false, .slice none 0 0] 24)) hb1; replace hv := bthen hv hb1; have hvs_v3 := hv.size; obtain ⟨x_a, x_k, x_r, h, h2, h3, hb⟩ := mv7 hb1 x_a x_k x_r h h2 h3 hb; clear hb1; replace q_a := x_a.al; replace q_k := x_k.al; replace q_r := x_r.al; rw [HM.out] at z5 ⊢; (try (obtain ⟨q_n10, f_n10, q_n11, f_n11⟩ := x_n1.al; have lt_n1 := x_n1.lt; have y_n1 := x_n1.alloc (.cells #[.bool false, .slice none 0 0] 24); have qy_n10 := y_n1.c0; have fy_n10 := y_n1.fr 0; have qy_n11 := y_n1.c1; have fy_n11 := y_n1.fr 1)); (try (obtain ⟨q_n20, f_n20, q_n21, f_n21⟩ := x_n2.al; have lt_n2 := x_n2.lt; have y_n2 := x_n2.alloc (.cells #[.bool false, .slice none 0 0] 24); have qy_n20 := y_n2.c0; have fy_n20 := y_n2.fr 0; have qy_n21 := y_n2.c1; have fy_n21 := y_n2.fr 1))) | (go_at_call 20; (with_reducible refine (ZMul_any (h.keep (below_alloc2 v2 (.cells #[.bool false, .slice none 0 0] 24) (.cells #[.bool false, .slice none 0 0] 24))).drw (h3.keep (below_alloc2 v2 (.cells #[.bool false, .slice none 0 0] 24) (.cells #[.bool false, .slice none 0 0] 24))).drw 60 (by omega) (by omega)).mono ?_); rintro e v3 ⟨A5, n5, c5, rfl, z5, hb1⟩; replace hb1 := undrew hb1; have x_n1 := ((Bx.new v2 false none 0 0).alloc (.cells #[.bool false, .slice none 0 0] 24)).keep hb1; have x_n2 := (Bx.at_size (alloc_size v2 (.cells #[.bool false, .slice none 0 0] 24)) : Bx ((v2.alloc (.cells #[.bool false, .slice none 0 0] 24)).alloc (.cells #[.bool false, .slice none 0 0] 24)) (v2.heap.size + 1) false none 0 0).keep hb1; replace hb1 := bthen (below_alloc2 v2 (.cells #[.bool false, .slice none 0 0] 24) (.cells #[.bool false, .slice none 0 0] 24)) hb1; replace hv := bthen hv hb1; have hvs_v3 := hv.size; obtain ⟨x_a, x_k, x_r, h, h2, h3, hb⟩ := mv7 hb1 x_a x_k x_r h h2 h3 hb; clear hb1; replace q_a := x_a.al; replace q_k := x_k.al; replace q_r := x_r.al; rw [HM.out] at z5 ⊢; (try (obtain ⟨q_n10, f_n10, q_n11, f_n11⟩ := x_n1.al; have lt_n1 := x_n1.lt; have y_n1 := x_n1.alloc (.cells #[.bool false, .slice none 0 0] 24); have qy_n10 := y_n1.c0; have fy_n10 := y_n1.fr 0; have qy_n11 := y_n1.c1; have fy_n11 := y_n1.fr 1)); (try (obtain ⟨q_n20, f_n20, q_n21, f_n21⟩ := x_n2.al; have lt_n2 := x_n2.lt; have y_n2 := x_n2.alloc (.cells #[.bool false, .slice none 0 0] 24); have qy_n20 := y_n2.c0; have fy_n20 := y_n2.fr 0; have qy_n21 := y_n2.c1; have fy_n21 := y_n2.fr 1))) | (go_at_call 20; (with_reducible refine (ZMul_any h2 h3 60 (by omega) (by omega)).mono ?_); rintro e v4 ⟨A6, n6, c6, rfl, z6, hb1⟩; (try replace x_n1 := x_n1.keep hb1); (try replace x_n2 := x_n2.keep hb1); replace hv := bthen hv hb1; have hvs_v4 := hv.size; obtain ⟨x_a, x_k, x_r, h, h2, h3, z5, hb⟩ := mv8 hb1 x_a x_k x_r h h2 h3 z5 hb; clear hb1; replace q_a := x_a.al; replace q_k := x_k.al; replace q_r := x_r.al; rw [HN.out] at z6 ⊢; (try (obtain ⟨q_n10, f_n10, q_n11, f_n11⟩ := x_n1.al; have lt_n1 := x_n1.lt; have y_n1 := x_n1.alloc (.cells #[.bool false, .slice none 0 0] 24); have qy_n10 := y_n1.c0; have fy_n10 := y_n1.fr 0; have qy_n11 := y_n1.c1; have fy_n11 := y_n1.fr 1)); (try (obtain ⟨q_n20, f_n20, q_n21, f_n21⟩ := x_n2.al; have lt_n2 := x_n2.lt; have y_n2 := x_n2.alloc (.cells #[.bool false, .slice none 0 0] 24); have qy_n20 := y_n2.c0; have fy_n20 := y_n2.fr 0; have qy_n21 := y_n2.c1; have fy_n21 := y_n2.fr 1))) | (go_at_call 20; (with_reducible refine (ZMul_any (h2.keep (below_alloc v3 (.cells #[.bool false, .slice none 0 0] 24))) (h3.keep (below_alloc v3 (.cells #[.bool false, .slice none 0 0] 24))) 60 (by omega) (by omega)).mono ?_); rintro e v4 ⟨A6, n6, c6, rfl, z6, hb1⟩; (first | (have lt_n := x_n1.lt; replace x_n1 := x_n1.keep (bthen (below_alloc v3 (.cells #[.bool false, .slice none 0 0] 24)) hb1); have x_n2 := (Bx.new v3 false none 0 0).keep hb1) | (have x_n1 := (Bx.new v3 false none 0 0).keep hb1)); replace hb1 := bthen (below_alloc v3 (.cells #[.bool false, .slice none 0 0] 24)) hb1; replace hv := bthen hv hb1; have hvs_v4 := hv.size; obtain ⟨x_a, x_k, x_r, h, h2, h3, z5, hb⟩ := mv8 hb1 x_a x_k x_r h h2 h3 z5 hb; clear hb1; replace q_a := x_a.al; replace q_k := x_k.al; replace q_r := x_r.al; rw [HN.out] at z6 ⊢; (try (obtain ⟨q_n10, f_n10, q_n11, f_n11⟩ := x_n1.al; have lt_n1 := x_n1.lt; have y_n1 := x_n1.alloc (.cells #[.bool false, .slice none 0 0] 24); have qy_n10 := y_n1.c0; have fy_n10 := y_n1.fr 0; have qy_n11 := y_n1.c1; have fy_n11 := y_n1.fr 1)); (try (obtain ⟨q_n20, f_n20, q_n21, f_n21⟩ := x_n2.al; have lt_n2 := x_n2.lt; have y_n2 := x_n2.alloc (.cells #[.bool false, .slice none 0 0] 24); have qy_n20 := y_n2.c0; have fy_n20 := y_n2.fr 0; have qy_n21 := y_n2.c1; have fy_n21 := y_n2.fr 1))) | (go_at_call 20; (with_reducible refine (ZMul_any (h2.keep (below_alloc2 v3 (.cells #[.bool false, .slice none 0 0] 24) (.cells #[.bool false, .slice none 0 0] 24))) (h3.keep (below_alloc2 v3 (.cells #[.bool false, .slice none 0 0] 24) (.cells #[.bool false, .slice none 0 0] 24))) 60 (by omega) (by omega)).mono ?_); rintro e v4 ⟨A6, n6, c6, rfl, z6, hb1⟩; have x_n1 := ((Bx.new v3 false none 0 0).alloc (.cells #[.bool false, .slice none 0 0] 24)).keep hb1; have x_n2 := (Bx.at_size (alloc_size v3 (.cells #[.bool false, .slice none 0 0] 24)) : Bx ((v3.alloc (.cells #[.bool false, .slice none 0 0] 24)).alloc (.cells #[.bool false, .slice none 0 0] 24)) (v3.heap.size + 1) false none 0 0).keep hb1; replace hb1 := bthen (below_alloc2 v3 (.cells #[.bool false, .slice none 0 0] 24) (.cells #[.bool false, .slice none 0 0] 24)) hb1; replace hv := bthen hv hb1; have hvs_v4 := hv.size; obtain ⟨x_a, x_k, x_r, h, h2, h3, z5, hb⟩ := mv8 hb1 x_a x_k x_r h h2 h3 z5 hb; clear hb1; replace q_a := x_a.al; replace q_k := x_k.al; replace q_r := x_r.al; rw [HN.out] at z6 ⊢; (try (obtain ⟨q_n10, f_n10, q_n11, f_n11⟩ := x_n1.al; have lt_n1 := x_n1.lt; have y_n1 := x_n1.alloc (.cells #[.bool false, .slice none 0 0] 24); have qy_n10 := y_n1.c0; have fy_n10 := y_n1.fr 0; have qy_n11 := y_n1.c1; have fy_n11 := y_n1.fr 1)); (try (obtain ⟨q_n20, f_n20, q_n21, f_n21⟩ := x_n2.al; have lt_n2 := x_n2.lt; have y_n2 := x_n2.alloc (.cells #[.bool false, .slice none 0 0] 24); have qy_n20 := y_n2.c0; have fy_n20 := y_n2.fr 0; have qy_n21 := y_n2.c1; have fy_n21 := y_n2.fr 1))))
   all_goals go_wp2_with fail
   all_goals go_meet
   all_goals first | (with_reducible exact BnNew2.ll hv z5 z6) | (with_reducible exact BnNew2.mm hv z5 z6) | (with_reducible exact BnNew2.el hv x_n1 (by omega) z5 z6) | (with_reducible exact BnNew2.le hv x_n1 (by omega) z5 z6) | (with_reducible exact BnNew2.gl hv x_n1 (by omega) z5 z6) | (with_reducible exact BnNew2.lg hv x_n1 (by omega) z5 z6) | (with_reducible exact BnNew2.el hv x_n2 (by omega) z5 z6) | (with_reducible exact BnNew2.le hv x_n2 (by omega) z5 z6) | (with_reducible exact BnNew2.gl hv x_n2 (by omega) z5 z6) | (with_reducible exact BnNew2.lg hv x_n2 (by omega) z5 z6) | (with_reducible exact BnNew2.ee hv x_n1 (by omega) x_n2 (by omega) (by omega) z5 z6) | (with_reducible exact BnNew2.ff hv x_n1 (by omega) x_n2 (by omega) (by omega) z5 z6) | (with_reducible exact BnNew2.ee hv x_n2 (by omega) x_n1 (by omega) (by omega) z5 z6) | (with_reducible exact BnNew2.ff hv x_n2 (by omega) x_n1 (by omega) (by omega) z5 z6)
  case rest =>
   obtain ⟨g5, g6, Ax7, nx7, cx7, Ay7, ny7, cy7, rfl, rfl, ne_l, x_l, x_u, z_l, z_u, e_l, e_u, hb1⟩ := hcut
   clear hv
   obtain ⟨x_a, x_k, x_r, h, h2, h3, hb⟩ := mv7 hb1 x_a x_k x_r h h2 h3 hb
   clear hb1
   replace q_a := x_a.al
   replace q_k := x_k.al
   replace q_r := x_r.al
   clear q_a q_k q_r
   generalize wc = v8 at *
   have q_a := x_a.al
   have q_k := x_k.al
   have q_r := x_r.al
   have q_l := x_l.al
   have q_u := x_u.al
   go_wp2_with fail
   with_reducible refine (ZSign_any h3 (by omega)).mono ?_
   rintro e v9 ⟨rfl, hb1⟩
   obtain ⟨x_a, x_k, x_r, x_l, x_u, h, h2, h3, z_l⟩ := mv9 hb1 x_a x_k x_r x_l x_u h h2 h3 z_l
   obtain ⟨z_u, hb⟩ := mv2 hb1 z_u hb
   clear hb1
   replace q_a := x_a.al
   replace q_k := x_k.al
   replace q_r := x_r.al
   replace q_l := x_l.al
   replace q_u := x_u.al
   rw [HC.out]
   go_wp2
   clear q_a q_k q_r q_l q_u
   refine x_r.st fun v10 hs hx => ?_
   obtain ⟨x_a, x_k, x_l, x_u, h, h2, h3, z_l, z_u⟩ := ms9 hs ⟨by omega, by omega, by omega, by omega, trivial, trivial, trivial, trivial, trivial⟩ x_a x_k x_l x_u h h2 h3 z_l z_u
   replace hb := Ms.ms hs (by omega) hb
   replace x_r := hx; clear hx hs
   have q_a := x_a.al
   have q_k := x_k.al
   have q_r := x_r.al
   have q_l := x_l.al
   have q_u := x_u.al
   skip
   refine bodyPost_ret (v := .tuple #[.agg #[.bool (ngB M), .slice Ax7 nx7 cx7, .bool (ngB N), .slice Ay7 ny7 cy7, .int .i64 q], .int .i64 0]) (by simp [results, Tryz.results214, go_sem, q_r]) rfl ?_
   exact ⟨_, _, _, _, _, _, rfl, z_l, z_u, hb⟩
end Go.Proofs.YtdonaominffpnaaGreatDoor
