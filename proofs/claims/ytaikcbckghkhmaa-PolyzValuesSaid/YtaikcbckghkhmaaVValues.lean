/-
  polyz: PolyzValues.
-/
import Derived.Test.YtaikcbckghkhmaaVlaw
import Derived.Test.YtaikcbckghkhmaaVnew
import Derived.Test.YtaikcbckghkhmaaVval
namespace Go.Proofs.Ytaikcbckghkhmaa
open Go.RowKit
open MP.Se (nf co)
set_option linter.unusedVariables false
set_option maxRecDepth 100000

set_option maxHeartbeats 2000000 in
/-- The law. -/
theorem PolyzValues_any {A B C : Option Addr} {kp cp kq cq kx cx : Nat} {bx : Bool} {lp lq lx : List Int} {w : World} (ap : Pa w A kp cp lp) (aq : Pa w B kq cq lq) (gx : Rd w w.heap.size C kx cx lx) :
    Calls Try.prog 5 #[.slice A kp cp, .slice B kq cq, .agg #[.bool bx, .slice C kx cx]] w fun e w' => e = .returned (.bool true) ∧ Below w.heap.size w w' := by
  have hbig := gx.big
  obtain ⟨X, zx⟩ := Zr.of_rd (b := bx) gx
  clear gx
  obtain ⟨U, hU⟩ : ∃ U, MP.Se.vl (co lp) X = U := ⟨_, rfl⟩
  obtain ⟨V, hV⟩ : ∃ V, MP.Se.vl (co lq) X = V := ⟨_, rfl⟩
  have E1 := Lib.hid (show MP.Se.vl (co lp + co lq) X = U + V by rw [MP.Se.vl_add (MP.Se.co_fn _) (MP.Se.co_fn _), hU, hV])
  have E2 := Lib.hid (show MP.Se.vl (co lp - co lq) X = U - V by rw [MP.Se.vl_sub (MP.Se.co_fn _) (MP.Se.co_fn _), hU, hV])
  have E3 := Lib.hid (show MP.Se.vl (co lp * co lq) X = U * V by rw [MP.Se.vl_mul (MP.Se.co_fn _) (MP.Se.co_fn _), hU, hV])
  have HU := Lib.hid hU; have HV := Lib.hid hV; clear hU hV
  go_enter Try.func5, Try.ntmps5
  go_wp2_with fail
  refine al1c fun v1 hb x_x => ?_
  replace x_x := Bx.of x_x
  obtain ⟨ap, aq, zx⟩ := mv3 hb ap aq zx
  have q_x := x_x.al
  go_wp2_with fail
  with_reducible refine (Lshown_any).mono ?_
  rintro e v2 ⟨rfl, hb1⟩
  obtain ⟨x_x, ap, aq, zx, hb⟩ := mv5 hb1 x_x ap aq zx hb
  clear hb1
  replace q_x := x_x.al
  go_wp2_with fail
  with_reducible refine (Llittle_any ap).mono ?_
  rintro e v3 ⟨β, rfl, h1, hb1⟩
  obtain ⟨x_x, ap, aq, zx, hb⟩ := mv5 hb1 x_x ap aq zx hb
  clear hb1
  replace q_x := x_x.al
  cases β
  · go_wp2; go_ret; exact ⟨rfl, hb⟩
  obtain ⟨ep, np, pp⟩ := h1 rfl
  clear h1 ap
  go_wp2_with fail
  with_reducible refine (Llittle_any aq).mono ?_
  rintro e v4 ⟨β, rfl, h1, hb1⟩
  obtain ⟨x_x, aq, zx, pp, hb⟩ := mv5 hb1 x_x aq zx pp hb
  clear hb1
  replace q_x := x_x.al
  cases β
  · go_wp2; go_ret; exact ⟨rfl, hb⟩
  obtain ⟨eq, nq, pq⟩ := h1 rfl
  clear h1 aq
  by_cases hxx : kx ≤ 1
  rotate_left
  · have hx2 : (1 : Int) < kx := by omega
    go_wp2; go_ret; exact ⟨rfl, hb⟩
  replace zx := zx.kto hxx
  go_upto_region 4 with fail
  have hv := Below.refl v4.heap.size v4
  have l_x_u := x_x.lt
  go_cut [8, 9] (fun s9 t9 wx => BnNew2 v4 U V 15 15 s9 t9 wx)
  case first =>
    go_region_held3 (fun w' => w'.cell? ⟨w.heap.size, 0, none⟩ = some (.bool bx) ∧ w'.cell? ⟨w.heap.size, 1, none⟩ = some (.slice C kx cx))
      (first | (with_reducible exact ⟨x_x.c0, x_x.c1⟩) | (with_reducible exact ⟨(x_x.alloc _).c0, (x_x.alloc _).c1⟩) | (with_reducible exact ⟨((x_x.alloc _).alloc _).c0, ((x_x.alloc _).alloc _).c1⟩) | (with_reducible exact ⟨(x_x.aside (by omega)).c0, (x_x.aside (by omega)).c1⟩) | (with_reducible exact ⟨((x_x.alloc _).aside (by omega)).c0, ((x_x.alloc _).aside (by omega)).c1⟩) | (with_reducible exact ⟨((x_x.aside (by omega)).alloc _).c0, ((x_x.aside (by omega)).alloc _).c1⟩) | (with_reducible exact ⟨(((x_x.alloc _).alloc _).aside (by omega)).c0, (((x_x.alloc _).alloc _).aside (by omega)).c1⟩) | (with_reducible exact ⟨((x_x.aside (by omega)).aside (by omega)).c0, ((x_x.aside (by omega)).aside (by omega)).c1⟩) | (with_reducible exact ⟨(((x_x.alloc _).aside (by omega)).aside (by omega)).c0, (((x_x.alloc _).aside (by omega)).aside (by omega)).c1⟩) | (with_reducible exact ⟨((((x_x.alloc _).alloc _).aside (by omega)).aside (by omega)).c0, ((((x_x.alloc _).alloc _).aside (by omega)).aside (by omega)).c1⟩) | go_keep)
      (first | (go_at_call 27; (with_reducible refine (PValue_any (J := 1) (J2 := 1) pp.drw.pd zx.drw (by omega)).mono ?_); rintro e v5 ⟨Au, ku, cu, rfl, yu, hb1⟩; replace hb1 := undrew hb1; (try replace x_n1 := x_n1.keep hb1); (try replace x_n2 := x_n2.keep hb1); replace hv := bthen hv hb1; have hvs_v5 := hv.size; obtain ⟨x_x, zx, pp, pq, hb⟩ := mv5 hb1 x_x zx pp pq hb; clear hb1; replace q_x := x_x.al; rw [HU.out] at yu ⊢; replace yu := yu.kto (show 1 + kp * (1 + 1) ≤ 15 by omega); (try (have q_n10 := x_n1.c0; have f_n10 := x_n1.fr 0; have q_n11 := x_n1.c1; have f_n11 := x_n1.fr 1; have lt_n1 := x_n1.lt; have y_n1 := x_n1.alloc (.cells #[.bool false, .slice none 0 0] 26); have qy_n10 := y_n1.c0; have fy_n10 := y_n1.fr 0; have qy_n11 := y_n1.c1; have fy_n11 := y_n1.fr 1)); (try (have q_n20 := x_n2.c0; have f_n20 := x_n2.fr 0; have q_n21 := x_n2.c1; have f_n21 := x_n2.fr 1; have lt_n2 := x_n2.lt; have y_n2 := x_n2.alloc (.cells #[.bool false, .slice none 0 0] 26); have qy_n20 := y_n2.c0; have fy_n20 := y_n2.fr 0; have qy_n21 := y_n2.c1; have fy_n21 := y_n2.fr 1))) | (go_at_call 27; (with_reducible refine (PValue_any (J := 1) (J2 := 1) (pp.keep (below_alloc v4 (.cells #[.bool false, .slice none 0 0] 26))).drw.pd (zx.keep (below_alloc v4 (.cells #[.bool false, .slice none 0 0] 26))).drw (by omega)).mono ?_); rintro e v5 ⟨Au, ku, cu, rfl, yu, hb1⟩; replace hb1 := undrew hb1; (first | (have lt_n := x_n1.lt; replace x_n1 := x_n1.keep (bthen (below_alloc v4 (.cells #[.bool false, .slice none 0 0] 26)) hb1); have x_n2 := (Bx.new v4 false none 0 0).keep hb1) | (have x_n1 := (Bx.new v4 false none 0 0).keep hb1)); replace hb1 := bthen (below_alloc v4 (.cells #[.bool false, .slice none 0 0] 26)) hb1; replace hv := bthen hv hb1; have hvs_v5 := hv.size; obtain ⟨x_x, zx, pp, pq, hb⟩ := mv5 hb1 x_x zx pp pq hb; clear hb1; replace q_x := x_x.al; rw [HU.out] at yu ⊢; replace yu := yu.kto (show 1 + kp * (1 + 1) ≤ 15 by omega); (try (have q_n10 := x_n1.c0; have f_n10 := x_n1.fr 0; have q_n11 := x_n1.c1; have f_n11 := x_n1.fr 1; have lt_n1 := x_n1.lt; have y_n1 := x_n1.alloc (.cells #[.bool false, .slice none 0 0] 26); have qy_n10 := y_n1.c0; have fy_n10 := y_n1.fr 0; have qy_n11 := y_n1.c1; have fy_n11 := y_n1.fr 1)); (try (have q_n20 := x_n2.c0; have f_n20 := x_n2.fr 0; have q_n21 := x_n2.c1; have f_n21 := x_n2.fr 1; have lt_n2 := x_n2.lt; have y_n2 := x_n2.alloc (.cells #[.bool false, .slice none 0 0] 26); have qy_n20 := y_n2.c0; have fy_n20 := y_n2.fr 0; have qy_n21 := y_n2.c1; have fy_n21 := y_n2.fr 1))) | (go_at_call 27; (with_reducible refine (PValue_any (J := 1) (J2 := 1) (pp.keep (below_alloc2 v4 (.cells #[.bool false, .slice none 0 0] 26) (.cells #[.bool false, .slice none 0 0] 26))).drw.pd (zx.keep (below_alloc2 v4 (.cells #[.bool false, .slice none 0 0] 26) (.cells #[.bool false, .slice none 0 0] 26))).drw (by omega)).mono ?_); rintro e v5 ⟨Au, ku, cu, rfl, yu, hb1⟩; replace hb1 := undrew hb1; have x_n1 := ((Bx.new v4 false none 0 0).alloc (.cells #[.bool false, .slice none 0 0] 26)).keep hb1; have x_n2 := (Bx.at_size (alloc_size v4 (.cells #[.bool false, .slice none 0 0] 26)) : Bx ((v4.alloc (.cells #[.bool false, .slice none 0 0] 26)).alloc (.cells #[.bool false, .slice none 0 0] 26)) (v4.heap.size + 1) false none 0 0).keep hb1; replace hb1 := bthen (below_alloc2 v4 (.cells #[.bool false, .slice none 0 0] 26) (.cells #[.bool false, .slice none 0 0] 26)) hb1; replace hv := bthen hv hb1; have hvs_v5 := hv.size; obtain ⟨x_x, zx, pp, pq, hb⟩ := mv5 hb1 x_x zx pp pq hb; clear hb1; replace q_x := x_x.al; rw [HU.out] at yu ⊢; replace yu := yu.kto (show 1 + kp * (1 + 1) ≤ 15 by omega); (try (have q_n10 := x_n1.c0; have f_n10 := x_n1.fr 0; have q_n11 := x_n1.c1; have f_n11 := x_n1.fr 1; have lt_n1 := x_n1.lt; have y_n1 := x_n1.alloc (.cells #[.bool false, .slice none 0 0] 26); have qy_n10 := y_n1.c0; have fy_n10 := y_n1.fr 0; have qy_n11 := y_n1.c1; have fy_n11 := y_n1.fr 1)); (try (have q_n20 := x_n2.c0; have f_n20 := x_n2.fr 0; have q_n21 := x_n2.c1; have f_n21 := x_n2.fr 1; have lt_n2 := x_n2.lt; have y_n2 := x_n2.alloc (.cells #[.bool false, .slice none 0 0] 26); have qy_n20 := y_n2.c0; have fy_n20 := y_n2.fr 0; have qy_n21 := y_n2.c1; have fy_n21 := y_n2.fr 1))) | (go_at_call 27; (with_reducible refine (PValue_any (J := 1) (J2 := 1) pq.pd zx (by omega)).mono ?_); rintro e v6 ⟨Av, kv, cv, rfl, yv, hb1⟩; (try replace x_n1 := x_n1.keep hb1); (try replace x_n2 := x_n2.keep hb1); replace hv := bthen hv hb1; have hvs_v6 := hv.size; obtain ⟨x_x, zx, pp, pq, yu, hb⟩ := mv6 hb1 x_x zx pp pq yu hb; clear hb1; replace q_x := x_x.al; rw [HV.out] at yv ⊢; replace yv := yv.kto (show 1 + kq * (1 + 1) ≤ 15 by omega); (try (have q_n10 := x_n1.c0; have f_n10 := x_n1.fr 0; have q_n11 := x_n1.c1; have f_n11 := x_n1.fr 1; have lt_n1 := x_n1.lt; have y_n1 := x_n1.alloc (.cells #[.bool false, .slice none 0 0] 26); have qy_n10 := y_n1.c0; have fy_n10 := y_n1.fr 0; have qy_n11 := y_n1.c1; have fy_n11 := y_n1.fr 1)); (try (have q_n20 := x_n2.c0; have f_n20 := x_n2.fr 0; have q_n21 := x_n2.c1; have f_n21 := x_n2.fr 1; have lt_n2 := x_n2.lt; have y_n2 := x_n2.alloc (.cells #[.bool false, .slice none 0 0] 26); have qy_n20 := y_n2.c0; have fy_n20 := y_n2.fr 0; have qy_n21 := y_n2.c1; have fy_n21 := y_n2.fr 1))) | (go_at_call 27; (with_reducible refine (PValue_any (J := 1) (J2 := 1) (pq.keep (below_alloc v5 (.cells #[.bool false, .slice none 0 0] 26))).pd (zx.keep (below_alloc v5 (.cells #[.bool false, .slice none 0 0] 26))) (by omega)).mono ?_); rintro e v6 ⟨Av, kv, cv, rfl, yv, hb1⟩; (first | (have lt_n := x_n1.lt; replace x_n1 := x_n1.keep (bthen (below_alloc v5 (.cells #[.bool false, .slice none 0 0] 26)) hb1); have x_n2 := (Bx.new v5 false none 0 0).keep hb1) | (have x_n1 := (Bx.new v5 false none 0 0).keep hb1)); replace hb1 := bthen (below_alloc v5 (.cells #[.bool false, .slice none 0 0] 26)) hb1; replace hv := bthen hv hb1; have hvs_v6 := hv.size; obtain ⟨x_x, zx, pp, pq, yu, hb⟩ := mv6 hb1 x_x zx pp pq yu hb; clear hb1; replace q_x := x_x.al; rw [HV.out] at yv ⊢; replace yv := yv.kto (show 1 + kq * (1 + 1) ≤ 15 by omega); (try (have q_n10 := x_n1.c0; have f_n10 := x_n1.fr 0; have q_n11 := x_n1.c1; have f_n11 := x_n1.fr 1; have lt_n1 := x_n1.lt; have y_n1 := x_n1.alloc (.cells #[.bool false, .slice none 0 0] 26); have qy_n10 := y_n1.c0; have fy_n10 := y_n1.fr 0; have qy_n11 := y_n1.c1; have fy_n11 := y_n1.fr 1)); (try (have q_n20 := x_n2.c0; have f_n20 := x_n2.fr 0; have q_n21 := x_n2.c1; have f_n21 := x_n2.fr 1; have lt_n2 := x_n2.lt; have y_n2 := x_n2.alloc (.cells #[.bool false, .slice none 0 0] 26); have qy_n20 := y_n2.c0; have fy_n20 := y_n2.fr 0; have qy_n21 := y_n2.c1; have fy_n21 := y_n2.fr 1))) | (go_at_call 27; (with_reducible refine (PValue_any (J := 1) (J2 := 1) (pq.keep (below_alloc2 v5 (.cells #[.bool false, .slice none 0 0] 26) (.cells #[.bool false, .slice none 0 0] 26))).pd (zx.keep (below_alloc2 v5 (.cells #[.bool false, .slice none 0 0] 26) (.cells #[.bool false, .slice none 0 0] 26))) (by omega)).mono ?_); rintro e v6 ⟨Av, kv, cv, rfl, yv, hb1⟩; have x_n1 := ((Bx.new v5 false none 0 0).alloc (.cells #[.bool false, .slice none 0 0] 26)).keep hb1; have x_n2 := (Bx.at_size (alloc_size v5 (.cells #[.bool false, .slice none 0 0] 26)) : Bx ((v5.alloc (.cells #[.bool false, .slice none 0 0] 26)).alloc (.cells #[.bool false, .slice none 0 0] 26)) (v5.heap.size + 1) false none 0 0).keep hb1; replace hb1 := bthen (below_alloc2 v5 (.cells #[.bool false, .slice none 0 0] 26) (.cells #[.bool false, .slice none 0 0] 26)) hb1; replace hv := bthen hv hb1; have hvs_v6 := hv.size; obtain ⟨x_x, zx, pp, pq, yu, hb⟩ := mv6 hb1 x_x zx pp pq yu hb; clear hb1; replace q_x := x_x.al; rw [HV.out] at yv ⊢; replace yv := yv.kto (show 1 + kq * (1 + 1) ≤ 15 by omega); (try (have q_n10 := x_n1.c0; have f_n10 := x_n1.fr 0; have q_n11 := x_n1.c1; have f_n11 := x_n1.fr 1; have lt_n1 := x_n1.lt; have y_n1 := x_n1.alloc (.cells #[.bool false, .slice none 0 0] 26); have qy_n10 := y_n1.c0; have fy_n10 := y_n1.fr 0; have qy_n11 := y_n1.c1; have fy_n11 := y_n1.fr 1)); (try (have q_n20 := x_n2.c0; have f_n20 := x_n2.fr 0; have q_n21 := x_n2.c1; have f_n21 := x_n2.fr 1; have lt_n2 := x_n2.lt; have y_n2 := x_n2.alloc (.cells #[.bool false, .slice none 0 0] 26); have qy_n20 := y_n2.c0; have fy_n20 := y_n2.fr 0; have qy_n21 := y_n2.c1; have fy_n21 := y_n2.fr 1))))
    all_goals go_wp2_with fail
    all_goals go_meet
    all_goals first | (with_reducible exact BnNew2.ll hv yu yv) | (with_reducible exact BnNew2.mm hv yu yv) | (with_reducible exact BnNew2.el hv x_n1 (by omega) yu yv) | (with_reducible exact BnNew2.le hv x_n1 (by omega) yu yv) | (with_reducible exact BnNew2.gl hv x_n1 (by omega) yu yv) | (with_reducible exact BnNew2.lg hv x_n1 (by omega) yu yv) | (with_reducible exact BnNew2.el hv x_n2 (by omega) yu yv) | (with_reducible exact BnNew2.le hv x_n2 (by omega) yu yv) | (with_reducible exact BnNew2.gl hv x_n2 (by omega) yu yv) | (with_reducible exact BnNew2.lg hv x_n2 (by omega) yu yv) | (with_reducible exact BnNew2.ee hv x_n1 (by omega) x_n2 (by omega) (by omega) yu yv) | (with_reducible exact BnNew2.ff hv x_n1 (by omega) x_n2 (by omega) (by omega) yu yv) | (with_reducible exact BnNew2.ee hv x_n2 (by omega) x_n1 (by omega) (by omega) yu yv) | (with_reducible exact BnNew2.ff hv x_n2 (by omega) x_n1 (by omega) (by omega) yu yv)
  case rest =>
    obtain ⟨g7, g8, Ax9, nx9, cx9, Ay9, ny9, cy9, rfl, rfl, ne_u, x_u, x_v, z_u, z_v, e_u, e_v, hb1⟩ := hcut
    clear hv
    obtain ⟨x_x, zx, pp, pq, hb⟩ := mv5 hb1 x_x zx pp pq hb
    clear hb1
    replace q_x := x_x.al
    clear q_x
    generalize wc = v10 at *
    have q_x := x_x.al
    have q_u := x_u.al
    have q_v := x_v.al
    go_upto_region 5 with fail
    go_region_held3 (fun w' => w'.cell? ⟨w.heap.size, 0, none⟩ = some (.bool bx) ∧ w'.cell? ⟨w.heap.size, 1, none⟩ = some (.slice C kx cx) ∧ w'.cell? ⟨g7, 0, none⟩ = some (.bool (ngB U)) ∧ w'.cell? ⟨g7, 1, none⟩ = some (.slice Ax9 nx9 cx9) ∧ w'.cell? ⟨g8, 0, none⟩ = some (.bool (ngB V)) ∧ w'.cell? ⟨g8, 1, none⟩ = some (.slice Ay9 ny9 cy9))
      (first | (with_reducible exact ⟨x_x.c0, x_x.c1, x_u.c0, x_u.c1, x_v.c0, x_v.c1⟩) | go_keep)
      (first | (go_at_call 22; (with_reducible refine (PAdd_any (J := 1) (K := 15) (pp.pd.drw.kto (by omega)) (pq.pd.drw.kto (by omega)) (by omega) (by omega)).mono ?_); rintro e v11 ⟨L1, m1, hL, A1, k1, c1, rfl, p1, hb1⟩; replace hb1 := undrew hb1; obtain ⟨x_x, x_u, x_v, zx, pp, pq, z_u, z_v, hb⟩ := mv9 hb1 x_x x_u x_v zx pp pq z_u z_v hb; clear hb1; replace q_x := x_x.al; replace q_u := x_u.al; replace q_v := x_v.al; have e1 : Lb L1 ((co lp) + (co lq)) 7 := ⟨hL.trans (by rw [ep.out, eq.out]), Bd.pl ep.bd eq.bd (by omega) (by omega)⟩; have n1 := e1.len m1 p1.pd.len; clear hL) | (go_at_call 27; (with_reducible refine (PValue_any (J := 15) (J2 := 1) p1.pd zx (by omega)).mono ?_); rintro e v12 ⟨A2, k2, c2, rfl, y2, hb1⟩; obtain ⟨x_x, x_u, x_v, zx, pp, pq, z_u, z_v, p1⟩ := mv9 hb1 x_x x_u x_v zx pp pq z_u z_v p1; replace hb := Mv.mv hb hb1; clear hb1; replace q_x := x_x.al; replace q_u := x_u.al; replace q_v := x_v.al; rw [e1.out] at y2 ⊢) | (go_at_call 29; (with_reducible refine (RAddZ_any z_u.zr z_v.zr 16 (by omega) (by omega) (by omega)).mono ?_); rintro e v13 ⟨A3, k3, c3, rfl, y3, hb1⟩; obtain ⟨x_x, x_u, x_v, zx, pp, pq, z_u, z_v, p1⟩ := mv9 hb1 x_x x_u x_v zx pp pq z_u z_v p1; obtain ⟨y2, hb⟩ := mv2 hb1 y2 hb; clear hb1; replace q_x := x_x.al; replace q_u := x_u.al; replace q_v := x_v.al) | (go_at_call 28; (with_reducible refine (RExact_any y2 y3).mono ?_); rintro e v14 ⟨rfl, hb1⟩; obtain ⟨x_x, x_u, x_v, zx, pp, pq, z_u, z_v, p1⟩ := mv9 hb1 x_x x_u x_v zx pp pq z_u z_v p1; obtain ⟨y2, y3, hb⟩ := mv3 hb1 y2 y3 hb; clear hb1; replace q_x := x_x.al; replace q_u := x_u.al; replace q_v := x_v.al; rw [show decide (MP.Se.vl ((co lp) + (co lq)) (X) = U + V) = true from decide_eq_true (E1.out)]) | (go_at_call 23; (with_reducible refine (PSub_any (J := 1) (K := 15) (pp.pd.kto (by omega)) (pq.pd.kto (by omega)) (by omega) (by omega)).mono ?_); rintro e v15 ⟨L4, m4, hL, A4, k4, c4, rfl, p4, hb1⟩; obtain ⟨x_x, x_u, x_v, zx, pp, pq, z_u, z_v, p1⟩ := mv9 hb1 x_x x_u x_v zx pp pq z_u z_v p1; obtain ⟨y2, y3, hb⟩ := mv3 hb1 y2 y3 hb; clear hb1; replace q_x := x_x.al; replace q_u := x_u.al; replace q_v := x_v.al; have e4 : Lb L4 ((co lp) - (co lq)) 7 := ⟨hL.trans (by rw [ep.out, eq.out]), Bd.mi ep.bd eq.bd (by omega) (by omega)⟩; have n4 := e4.len m4 p4.pd.len; clear hL) | (go_at_call 27; (with_reducible refine (PValue_any (J := 15) (J2 := 1) p4.pd zx (by omega)).mono ?_); rintro e v16 ⟨A5, k5, c5, rfl, y5, hb1⟩; obtain ⟨x_x, x_u, x_v, zx, pp, pq, z_u, z_v, p1⟩ := mv9 hb1 x_x x_u x_v zx pp pq z_u z_v p1; obtain ⟨y2, y3, p4, hb⟩ := mv4 hb1 y2 y3 p4 hb; clear hb1; replace q_x := x_x.al; replace q_u := x_u.al; replace q_v := x_v.al; rw [e4.out] at y5 ⊢) | (go_at_call 30; (with_reducible refine (RSubZ_any z_u.zr z_v.zr 16 (by omega) (by omega) (by omega)).mono ?_); rintro e v17 ⟨A6, k6, c6, rfl, y6, hb1⟩; obtain ⟨x_x, x_u, x_v, zx, pp, pq, z_u, z_v, p1⟩ := mv9 hb1 x_x x_u x_v zx pp pq z_u z_v p1; obtain ⟨y2, y3, p4, y5, hb⟩ := mv5 hb1 y2 y3 p4 y5 hb; clear hb1; replace q_x := x_x.al; replace q_u := x_u.al; replace q_v := x_v.al) | (go_at_call 28; (with_reducible refine (RExact_any y5 y6).mono ?_); rintro e v18 ⟨rfl, hb1⟩; obtain ⟨x_x, x_u, x_v, zx, pp, pq, z_u, z_v, p1⟩ := mv9 hb1 x_x x_u x_v zx pp pq z_u z_v p1; obtain ⟨y2, y3, p4, y5, y6, hb⟩ := mv6 hb1 y2 y3 p4 y5 y6 hb; clear hb1; replace q_x := x_x.al; replace q_u := x_u.al; replace q_v := x_v.al; rw [show decide (MP.Se.vl ((co lp) - (co lq)) (X) = U - V) = true from decide_eq_true (E2.out)]))
    clear p1
    clear e1 m1
    clear p4
    clear e4 m4
    clear y2
    clear y3
    clear y5
    clear y6
    go_upto_region 6 with fail
    go_region_held3 (fun w' => w'.cell? ⟨w.heap.size, 0, none⟩ = some (.bool bx) ∧ w'.cell? ⟨w.heap.size, 1, none⟩ = some (.slice C kx cx) ∧ w'.cell? ⟨g7, 0, none⟩ = some (.bool (ngB U)) ∧ w'.cell? ⟨g7, 1, none⟩ = some (.slice Ax9 nx9 cx9) ∧ w'.cell? ⟨g8, 0, none⟩ = some (.bool (ngB V)) ∧ w'.cell? ⟨g8, 1, none⟩ = some (.slice Ay9 ny9 cy9))
      (first | (with_reducible exact ⟨x_x.c0, x_x.c1, x_u.c0, x_u.c1, x_v.c0, x_v.c1⟩) | go_keep)
      (first | (go_at_call 21; (with_reducible refine (PMul_any (J := 1) (J2 := 1) (K := 51) pp.pd.drw pq.pd.drw (by omega) (by have := Nat.mul_le_mul np nq; omega) (by omega)).mono ?_); rintro e v19 ⟨L7, m7, hL, A7, k7, c7, rfl, p7, hb1⟩; replace hb1 := undrew hb1; obtain ⟨x_x, x_u, x_v, zx, pp, pq, z_u, z_v, hb⟩ := mv9 hb1 x_x x_u x_v zx pp pq z_u z_v hb; clear hb1; replace q_x := x_x.al; replace q_u := x_u.al; replace q_v := x_v.al; have e7 : Lb L7 ((co lp) * (co lq)) 13 := ⟨hL.trans (by rw [ep.out, eq.out]), Bd.mul (n := 6) (K := 6) ep.bd eq.bd⟩; have n7 := e7.len m7 p7.pd.len; clear hL) | (go_at_call 27; (with_reducible refine (PValue_any (J := 51) (J2 := 1) p7.pd zx (by omega)).mono ?_); rintro e v20 ⟨A8, k8, c8, rfl, y8, hb1⟩; obtain ⟨x_x, x_u, x_v, zx, pp, pq, z_u, z_v, p7⟩ := mv9 hb1 x_x x_u x_v zx pp pq z_u z_v p7; replace hb := Mv.mv hb hb1; clear hb1; replace q_x := x_x.al; replace q_u := x_u.al; replace q_v := x_v.al; rw [e7.out] at y8 ⊢) | (go_at_call 31; (with_reducible refine (RMulZ_any z_u.zr z_v.zr 30 (by omega) (by omega)).mono ?_); rintro e v21 ⟨A9, k9, c9, rfl, y9, hb1⟩; obtain ⟨x_x, x_u, x_v, zx, pp, pq, z_u, z_v, p7⟩ := mv9 hb1 x_x x_u x_v zx pp pq z_u z_v p7; obtain ⟨y8, hb⟩ := mv2 hb1 y8 hb; clear hb1; replace q_x := x_x.al; replace q_u := x_u.al; replace q_v := x_v.al) | (go_at_call 28; (with_reducible refine (RExact_any y8 y9).mono ?_); rintro e v22 ⟨rfl, hb1⟩; obtain ⟨x_x, x_u, x_v, zx, pp, pq, z_u, z_v, p7⟩ := mv9 hb1 x_x x_u x_v zx pp pq z_u z_v p7; obtain ⟨y8, y9, hb⟩ := mv3 hb1 y8 y9 hb; clear hb1; replace q_x := x_x.al; replace q_u := x_u.al; replace q_v := x_v.al; rw [show decide (MP.Se.vl ((co lp) * (co lq)) (X) = U * V) = true from decide_eq_true (E3.out)]))
    go_wp2
    go_ret
    exact ⟨rfl, hb⟩
end Go.Proofs.Ytaikcbckghkhmaa
