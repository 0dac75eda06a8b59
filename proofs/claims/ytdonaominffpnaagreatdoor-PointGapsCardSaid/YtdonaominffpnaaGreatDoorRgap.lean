/-
 point: the document's Gap.
-/
import Derived.Test.YtdonaominffpnaaGreatDoorRgno
import Derived.Test.YtdonaominffpnaaGreatDoorPscal
namespace Go.Proofs.YtdonaominffpnaaGreatDoor
set_option maxRecDepth 100000
set_option maxHeartbeats 4000000
set_option linter.unusedVariables false
open Go.RowKit
variable {b b2 b3 b4 : Bool} {A A2 A3 A4 : Option Addr} {n c n2 c2 n3 c3 n4 c4 j j2 : Nat} {X Y U V q e : Int} {w : World}
theorem up_dvI {X d : Int} (hd : 0 < d) : upI X d = -(-X / d) := by rw [up_fl (by omega)]; unfold fqI; rw [if_neg (by omega)]
theorem RGap_yes (h : Zr w b A n c X 8) (h2 : Zr w b2 A2 n2 c2 Y 8) (hv : 0 ≤ q ∧ q ≤ 2048 ∧ X ≤ Y) (s : Nat) (hs : s ≤ 2048) :
  Calls Tryz.prog 11 #[.agg #[.bool b, .slice A n c, .bool b2, .slice A2 n2 c2, .int .i64 q], .int .i64 (s : Nat)] w (GpPost w (gaL X Y s) (gaM X Y s)) := by
 have hgm := gaM_ref (s := s) hv.2.2
 have p0 : (0 : Int) < 2 ^ s := Int.pow_pos (by omega)
 have hgl : gaL X Y s = _ := np_ref p0 hv.2.2
 rw [hgl, hgm]
 obtain ⟨T, hT⟩ : ∃ T : Int, 2 ^ s = T := ⟨_, rfl⟩
 rw [hT] at p0 ⊢
 obtain ⟨H, hH⟩ : ∃ H : Int, 2 ^ (s - 1) = H := ⟨_, rfl⟩
 rw [hH]
 obtain ⟨D1, hD1⟩ : ∃ D, dsI X T = D := ⟨_, rfl⟩
 obtain ⟨D2, hD2⟩ : ∃ D, dsI Y T = D := ⟨_, rfl⟩
 rw [hD1, hD2]
 obtain ⟨U, hU⟩ : ∃ D, -(-X / T) = D := ⟨_, rfl⟩
 obtain ⟨V, hV⟩ : ∃ D, U * T = D := ⟨_, rfl⟩
 obtain ⟨O, hO⟩ : ∃ D, -(-(X - H) / T) = D := ⟨_, rfl⟩
 obtain ⟨P, hP⟩ : ∃ D, O * T + H = D := ⟨_, rfl⟩
 rw [hU, hV, hO, hP]
 obtain ⟨LL, hLL⟩ : ∃ L, (if V ≤ Y then 0 else min D1 D2) = L := ⟨_, rfl⟩
 obtain ⟨MM, hMM⟩ : ∃ L, (if s = 0 then max D1 D2 else if P ≤ Y then H else max D1 D2) = L := ⟨_, rfl⟩
 rw [hLL, hMM]
 have HLL := Lib.hid hLL; have HMM := Lib.hid hMM; clear hLL hMM
 have HX : Hid (dsI X T = D1 ∧ dsI Y T = D2 ∧ upI X T = U ∧ U * T = V ∧ upI (X - H) T = O ∧ O * T + H = P) := Lib.hid ⟨hD1, hD2, by rw [up_dvI p0]; exact hU, hV, by rw [up_dvI p0]; exact hO, hP⟩
 have HSC : Hid (sc (s : Int) = s ∧ 2 ^ s = T) := Lib.hid ⟨sc_nat (by omega), hT⟩
 have HSI : Hid (Si H 33) := Lib.hid (by rw [← hH]; exact si_twL (K := 1) (Q := s - 1) (by omega) (by omega) (by show twP (s - 1) ≤ _; omega) (by have := tw_pos (s - 1); show _ ≤ twP (s - 1); omega))
 have HST : Hid (Si T 33) := Lib.hid (by rw [← hT]; exact si_twL (K := 1) (Q := s) (by omega) (by omega) (by show twP s ≤ _; omega) (by have := tw_pos s; show _ ≤ twP s; omega))
 have HSH : Hid (¬ s = 0 → sc ((s : Int) - 1) = s - 1 ∧ 2 ^ (s - 1) = H) := Lib.hid (fun h0 => ⟨by unfold sc; omega, hH⟩)
 have w1 : IntKind.i64.wrap ((s : Int) - 1) = (s : Int) - 1 := wrap_in (by omega) (by omega)
 have hs0 : (s : Int) ≤ 2048 := by omega
 have HR := Lib.hid (rB_yes hv)
 clear hgl hgm hT hH hD1 hD2 hU hV hO hP hv hs
 have e1 := sgn_le (X := D1) (Y := D2)
 obtain ⟨C1, hC1⟩ : ∃ C, sgnI (D1 - D2) = C := ⟨_, rfl⟩
 rw [hC1] at e1; have HC1 := Lib.hid hC1; clear hC1
 have e2 := sgn_le (X := V) (Y := Y)
 obtain ⟨C2, hC2⟩ : ∃ C, sgnI (V - Y) = C := ⟨_, rfl⟩
 rw [hC2] at e2; have HC2 := Lib.hid hC2; clear hC2
 have e3 := sgn_le (X := P) (Y := Y)
 obtain ⟨C3, hC3⟩ : ∃ C, sgnI (P - Y) = C := ⟨_, rfl⟩
 rw [hC3] at e3; have HC3 := Lib.hid hC3; clear hC3
 go_enter Tryz.func11, Tryz.ntmps11
 go_wp2_with fail
 refine al3c fun v1 hb x_b x_r x_t => ?_
 replace x_b := Lx.of x_b; replace x_r := Bx.of x_r; replace x_t := Bx.of x_t
 obtain ⟨h, h2⟩ := mv2 hb h h2
 have q_b := x_b.al
 have q_r := x_r.al
 have q_t := x_t.al
 clear q_r
 clear q_t
 skip
 with_reducible refine (RRight_any h h2 (by omega) (by omega)).mono ?_
 rintro e v2 ⟨rfl, hb1⟩
 obtain ⟨x_b, x_r, x_t, h, h2, hb⟩ := mv6 hb1 x_b x_r x_t h h2 hb
 clear hb1
 replace q_b := x_b.al
 rw [HR.out]
 go_wp2_with fail
 with_reducible refine (ROf_any 1 (by omega) (by omega)).mono ?_
 rintro e v3 ⟨A3, n3, c3, rfl, z3, hb1⟩
 obtain ⟨x_b, x_r, x_t, h, h2, hb⟩ := mv6 hb1 x_b x_r x_t h h2 hb
 clear hb1
 replace q_b := x_b.al
 go_wp2_with fail
 with_reducible refine (RShlZ_any z3.zr (s : Int) 130 (by omega) (by omega)).mono ?_
 rintro e v4 ⟨A5, n5, c5, rfl, z5, hb1⟩
 obtain ⟨x_b, x_r, x_t, h, h2, z3, hb⟩ := mv7 hb1 x_b x_r x_t h h2 z3 hb
 clear hb1
 replace q_b := x_b.al
 rw [HSC.out.1, HSC.out.2, Int.one_mul] at z5 ⊢; replace z5 := z5.slim HST.out
 have y_b := ((x_b.alloc (.cells #[.bool (ngB T), .slice A5 n5 c5] 24))).al
 go_wp2_with fail
 clear y_b
 have l_b_by := x_b.lt
 have l_r_by := x_r.lt
 have l_t_by := x_t.lt
 have e_by : w.heap.size ≤ v4.heap.size := hb.size
 clear q_b
 refine al1c fun v5 hb1 x_by => ?_
 replace x_by := Bx.of x_by
 obtain ⟨x_b, x_r, x_t, h, h2, z5, hb⟩ := mv7 hb1 x_b x_r x_t h h2 z5 hb
 clear hb1
 have q_b := x_b.al
 have q_by := x_by.al
 skip
 with_reducible refine (RTo_any (h.wide (by omega)) (z5.wide (by omega)).zr p0).mono ?_
 rintro e v6 ⟨A7, n7, c7, rfl, z7, hb1⟩
 obtain ⟨x_b, x_r, x_t, x_by, h, h2, z5, hb⟩ := mv8 hb1 x_b x_r x_t x_by h h2 z5 hb
 clear hb1
 replace q_b := x_b.al
 replace q_by := x_by.al
 rw [HX.out.1] at z7 ⊢
 have y_b := ((x_b.alloc (.cells #[.bool (ngB D1), .slice A7 n7 c7] 24))).al
 have y_by := ((x_by.alloc (.cells #[.bool (ngB D1), .slice A7 n7 c7] 24))).al
 go_wp2_with fail
 clear y_b y_by
 have l_b_x := x_b.lt
 have l_r_x := x_r.lt
 have l_t_x := x_t.lt
 have l_by_x := x_by.lt
 have e_x : w.heap.size ≤ v6.heap.size := hb.size
 clear q_b q_by
 refine al1c fun v7 hb1 x_x => ?_
 replace x_x := Bx.of x_x
 obtain ⟨x_b, x_r, x_t, x_by, h, h2, z5, z7, hb⟩ := mv9 hb1 x_b x_r x_t x_by h h2 z5 z7 hb
 clear hb1
 have q_b := x_b.al
 have q_by := x_by.al
 have q_x := x_x.al
 skip
 with_reducible refine (RTo_any (h2.wide (by omega)) (z5.wide (by omega)).zr p0).mono ?_
 rintro e v8 ⟨A8, n8, c8, rfl, z8, hb1⟩
 obtain ⟨x_b, x_r, x_t, x_by, x_x, h, h2, z5, z7⟩ := mv9 hb1 x_b x_r x_t x_by x_x h h2 z5 z7
 replace hb := Mv.mv hb hb1
 clear hb1
 replace q_b := x_b.al
 replace q_by := x_by.al
 replace q_x := x_x.al
 rw [HX.out.2.1] at z8 ⊢
 have y_b := ((x_b.alloc (.cells #[.bool (ngB D2), .slice A8 n8 c8] 24))).al
 have y_by := ((x_by.alloc (.cells #[.bool (ngB D2), .slice A8 n8 c8] 24))).al
 have y_x := ((x_x.alloc (.cells #[.bool (ngB D2), .slice A8 n8 c8] 24))).al
 go_upto_region 7 with fail
 clear y_b y_by y_x
 have l_b_y := x_b.lt
 have l_r_y := x_r.lt
 have l_t_y := x_t.lt
 have l_by_y := x_by.lt
 have l_x_y := x_x.lt
 have e_y : w.heap.size ≤ v8.heap.size := hb.size
 clear q_b q_by q_x
 refine al1 fun v9 hb1 x_y => ?_
 replace x_y := Bx.of x_y
 obtain ⟨x_b, x_r, x_t, x_by, x_x, h, h2, z5, z7⟩ := mv9 hb1 x_b x_r x_t x_by x_x h h2 z5 z7
 obtain ⟨z8, hb⟩ := mv2 hb1 z8 hb
 clear hb1
 have q_b := x_b.al
 have q_by := x_by.al
 have q_x := x_x.al
 have q_y := x_y.al
 have y_b := ((x_b.alloc (.cells #[.bool (ngB D1), .slice A7 n7 c7] 24))).al
 have y_by := ((x_by.alloc (.cells #[.bool (ngB D1), .slice A7 n7 c7] 24))).al
 have y_x := ((x_x.alloc (.cells #[.bool (ngB D1), .slice A7 n7 c7] 24))).al
 have y_y := ((x_y.alloc (.cells #[.bool (ngB D1), .slice A7 n7 c7] 24))).al
 go_upto_region 8 with fail
 clear y_b y_by y_x y_y
 have l_b_le := x_b.lt
 have l_r_le := x_r.lt
 have l_t_le := x_t.lt
 have l_by_le := x_by.lt
 have l_x_le := x_x.lt
 have l_y_le := x_y.lt
 have e_le : w.heap.size ≤ v9.heap.size := hb.size
 clear q_b q_by q_x q_y
 refine al1 fun v10 hb1 x_le => ?_
 replace x_le := Bx.of x_le
 obtain ⟨x_b, x_r, x_t, x_by, x_x, x_y, h, h2, z5⟩ := mv9 hb1 x_b x_r x_t x_by x_x x_y h h2 z5
 obtain ⟨z7, z8, hb⟩ := mv3 hb1 z7 z8 hb
 clear hb1
 have q_b := x_b.al
 have q_by := x_by.al
 have q_x := x_x.al
 have q_y := x_y.al
 have q_le := x_le.al
 have y_b := ((x_b.alloc (.cells #[.bool (ngB D2), .slice A8 n8 c8] 24))).al
 have y_by := ((x_by.alloc (.cells #[.bool (ngB D2), .slice A8 n8 c8] 24))).al
 have y_x := ((x_x.alloc (.cells #[.bool (ngB D2), .slice A8 n8 c8] 24))).al
 have y_y := ((x_y.alloc (.cells #[.bool (ngB D2), .slice A8 n8 c8] 24))).al
 have y_le := ((x_le.alloc (.cells #[.bool (ngB D2), .slice A8 n8 c8] 24))).al
 go_wp2_with fail
 clear y_b y_by y_x y_y y_le
 have l_b_mo := x_b.lt
 have l_r_mo := x_r.lt
 have l_t_mo := x_t.lt
 have l_by_mo := x_by.lt
 have l_x_mo := x_x.lt
 have l_y_mo := x_y.lt
 have l_le_mo := x_le.lt
 have e_mo : w.heap.size ≤ v10.heap.size := hb.size
 clear q_b q_by q_x q_y q_le
 refine al1c fun v11 hb1 x_mo => ?_
 replace x_mo := Bx.of x_mo
 obtain ⟨x_b, x_r, x_t, x_by, x_x, x_y, x_le, h, h2⟩ := mv9 hb1 x_b x_r x_t x_by x_x x_y x_le h h2
 obtain ⟨z5, z7, z8, hb⟩ := mv4 hb1 z5 z7 z8 hb
 clear hb1
 have q_b := x_b.al
 have q_by := x_by.al
 have q_x := x_x.al
 have q_y := x_y.al
 have q_le := x_le.al
 have q_mo := x_mo.al
 skip
 with_reducible refine (RCmpZ_any z7.zr z8.zr 170 (by omega) (by omega) (by omega)).mono ?_
 rintro e v12 ⟨rfl, hb1⟩
 obtain ⟨x_b, x_r, x_t, x_by, x_x, x_y, x_le, x_mo, h⟩ := mv9 hb1 x_b x_r x_t x_by x_x x_y x_le x_mo h
 obtain ⟨h2, z5, z7, z8, hb⟩ := mv5 hb1 h2 z5 z7 z8 hb
 clear hb1
 replace q_b := x_b.al
 replace q_by := x_by.al
 replace q_x := x_x.al
 replace q_y := x_y.al
 replace q_le := x_le.al
 replace q_mo := x_mo.al
 rw [HC1.out]
 by_cases hC : C1 ≤ 0
 focus
  go_upto_region 12 with fail
  obtain ⟨Fl, il, jl, L0, Fm, im, jm, M0, y_le, y_mo, yl, ym, hL0, hM0⟩ : ∃ Fl il jl L0 Fm im jm M0, Bx v12 (v9.heap.size) (ngB L0) Fl il jl ∧ Bx v12 (v10.heap.size) (ngB M0) Fm im jm ∧ Zn v12 Fl il jl L0 160 ∧ Zn v12 Fm im jm M0 160 ∧ L0 = min D1 D2 ∧ M0 = max D1 D2 := ⟨_, _, _, _, _, _, _, _, x_le, x_mo, z7, z8, by have := e1.1 hC; omega, by have := e1.1 hC; omega⟩
  clear e1 hC q_le q_mo q_x q_y x_le x_mo x_x x_y z7 z8
  generalize v12 = u at *
 rotate_left
 focus
  go_upto_region 11 with fail
  clear q_b q_by q_x q_y q_le q_mo
  refine x_le.st fun v13 hs hx => ?_
  obtain ⟨x_b, x_r, x_t, x_by, x_x, x_y, x_mo, h, h2⟩ := ms9 hs ⟨by omega, by omega, by omega, by omega, by omega, by omega, by omega, trivial, trivial⟩ x_b x_r x_t x_by x_x x_y x_mo h h2
  obtain ⟨z5, z7, z8, hb⟩ := ms4 hs ⟨trivial, trivial, trivial, by omega⟩ z5 z7 z8 hb
  replace x_le := hx; clear hx hs
  have q_b := x_b.al
  have q_by := x_by.al
  have q_x := x_x.al
  have q_y := x_y.al
  have q_le := x_le.al
  have q_mo := x_mo.al
  go_upto_region 12 with fail
  clear q_b q_by q_x q_y q_le q_mo
  refine x_mo.st fun v14 hs hx => ?_
  obtain ⟨x_b, x_r, x_t, x_by, x_x, x_y, x_le, h, h2⟩ := ms9 hs ⟨by omega, by omega, by omega, by omega, by omega, by omega, by omega, trivial, trivial⟩ x_b x_r x_t x_by x_x x_y x_le h h2
  obtain ⟨z5, z7, z8, hb⟩ := ms4 hs ⟨trivial, trivial, trivial, by omega⟩ z5 z7 z8 hb
  replace x_mo := hx; clear hx hs
  have q_b := x_b.al
  have q_by := x_by.al
  have q_x := x_x.al
  have q_y := x_y.al
  have q_le := x_le.al
  have q_mo := x_mo.al
  obtain ⟨Fl, il, jl, L0, Fm, im, jm, M0, y_le, y_mo, yl, ym, hL0, hM0⟩ : ∃ Fl il jl L0 Fm im jm M0, Bx v14 (v9.heap.size) (ngB L0) Fl il jl ∧ Bx v14 (v10.heap.size) (ngB M0) Fm im jm ∧ Zn v14 Fl il jl L0 160 ∧ Zn v14 Fm im jm M0 160 ∧ L0 = min D1 D2 ∧ M0 = max D1 D2 := ⟨_, _, _, _, _, _, _, _, x_le, x_mo, z8, z7, by have := mt e1.2 (by omega); omega, by have := mt e1.2 (by omega); omega⟩
  clear e1 hC q_le q_mo q_x q_y x_le x_mo x_x x_y z7 z8
  generalize v14 = u at *
 all_goals
  have HL0 := Lib.hid hL0; have HM0 := Lib.hid hM0; clear hL0 hM0
  have x_le := y_le; have x_mo := y_mo; clear y_le y_mo
  have q_le := x_le.al
  have q_mo := x_mo.al
  go_wp2_with fail
  with_reducible refine (RUpZ_any h z5.zr (by omega) 40 (by omega) (by omega) (by omega)).mono ?_
  rintro e v201 ⟨A10, n10, c10, rfl, z10, hb1⟩
  obtain ⟨x_b, x_r, x_t, x_by, x_le, x_mo, h, h2, z5⟩ := mv9 hb1 x_b x_r x_t x_by x_le x_mo h h2 z5
  obtain ⟨yl, ym, hb⟩ := mv3 hb1 yl ym hb
  clear hb1
  replace q_b := x_b.al
  replace q_by := x_by.al
  replace q_le := x_le.al
  replace q_mo := x_mo.al
  rw [HX.out.2.2.1] at z10 ⊢
  have y_b := ((x_b.alloc (.cells #[.bool (ngB U), .slice A10 n10 c10] 24))).al
  have y_by := ((x_by.alloc (.cells #[.bool (ngB U), .slice A10 n10 c10] 24))).al
  have y_le := ((x_le.alloc (.cells #[.bool (ngB U), .slice A10 n10 c10] 24))).al
  have y_mo := ((x_mo.alloc (.cells #[.bool (ngB U), .slice A10 n10 c10] 24))).al
  go_upto_region 13 with fail
  clear y_b y_by y_le y_mo
  have l_b_up := x_b.lt
  have l_r_up := x_r.lt
  have l_t_up := x_t.lt
  have l_by_up := x_by.lt
  have l_le_up := x_le.lt
  have l_mo_up := x_mo.lt
  have e_up : w.heap.size ≤ v201.heap.size := hb.size
  clear q_b q_by q_le q_mo
  refine al1 fun v202 hb1 x_up => ?_
  replace x_up := Bx.of x_up
  obtain ⟨x_b, x_r, x_t, x_by, x_le, x_mo, h, h2, z5⟩ := mv9 hb1 x_b x_r x_t x_by x_le x_mo h h2 z5
  obtain ⟨yl, ym, z10, hb⟩ := mv4 hb1 yl ym z10 hb
  clear hb1
  have q_b := x_b.al
  have q_by := x_by.al
  have q_le := x_le.al
  have q_mo := x_mo.al
  have q_up := x_up.al
  go_region_held3 (fun w' => w'.cell? ⟨v201.heap.size, 0, none⟩ = some (.bool (ngB U)) ∧ w'.cell? ⟨v201.heap.size, 1, none⟩ = some (.slice A10 n10 c10) ∧ w'.cell? ⟨v4.heap.size, 0, none⟩ = some (.bool (ngB T)) ∧ w'.cell? ⟨v4.heap.size, 1, none⟩ = some (.slice A5 n5 c5) ∧ w'.cell? ⟨w.heap.size, 0, none⟩ = some (.bool b) ∧ w'.cell? ⟨w.heap.size, 1, none⟩ = some (.slice A n c) ∧ w'.cell? ⟨w.heap.size, 2, none⟩ = some (.bool b2) ∧ w'.cell? ⟨w.heap.size, 3, none⟩ = some (.slice A2 n2 c2) ∧ w'.cell? ⟨w.heap.size, 4, none⟩ = some (.int .i64 q))
   (first | (with_reducible exact ⟨x_up.c0, x_up.c1, x_by.c0, x_by.c1, x_b.c0, x_b.c1, x_b.c2, x_b.c3, x_b.c4⟩) | (with_reducible exact ⟨(x_up.aside (by omega)).c0, (x_up.aside (by omega)).c1, (x_by.aside (by omega)).c0, (x_by.aside (by omega)).c1, (x_b.aside (by omega)).c0, (x_b.aside (by omega)).c1, (x_b.aside (by omega)).c2, (x_b.aside (by omega)).c3, (x_b.aside (by omega)).c4⟩) | (with_reducible exact ⟨((x_up.aside (by omega)).aside (by omega)).c0, ((x_up.aside (by omega)).aside (by omega)).c1, ((x_by.aside (by omega)).aside (by omega)).c0, ((x_by.aside (by omega)).aside (by omega)).c1, ((x_b.aside (by omega)).aside (by omega)).c0, ((x_b.aside (by omega)).aside (by omega)).c1, ((x_b.aside (by omega)).aside (by omega)).c2, ((x_b.aside (by omega)).aside (by omega)).c3, ((x_b.aside (by omega)).aside (by omega)).c4⟩) | (with_reducible exact ⟨(x_up.asideD (by omega)).c0, (x_up.asideD (by omega)).c1, (x_by.asideD (by omega)).c0, (x_by.asideD (by omega)).c1, (x_b.asideD (by omega)).c0, (x_b.asideD (by omega)).c1, (x_b.asideD (by omega)).c2, (x_b.asideD (by omega)).c3, (x_b.asideD (by omega)).c4⟩) | (with_reducible exact ⟨((x_up.asideD (by omega)).asideD (by omega)).c0, ((x_up.asideD (by omega)).asideD (by omega)).c1, ((x_by.asideD (by omega)).asideD (by omega)).c0, ((x_by.asideD (by omega)).asideD (by omega)).c1, ((x_b.asideD (by omega)).asideD (by omega)).c0, ((x_b.asideD (by omega)).asideD (by omega)).c1, ((x_b.asideD (by omega)).asideD (by omega)).c2, ((x_b.asideD (by omega)).asideD (by omega)).c3, ((x_b.asideD (by omega)).asideD (by omega)).c4⟩) | (with_reducible exact ⟨(x_up.asideL (by omega)).c0, (x_up.asideL (by omega)).c1, (x_by.asideL (by omega)).c0, (x_by.asideL (by omega)).c1, (x_b.asideL (by omega)).c0, (x_b.asideL (by omega)).c1, (x_b.asideL (by omega)).c2, (x_b.asideL (by omega)).c3, (x_b.asideL (by omega)).c4⟩) | (with_reducible exact ⟨((x_up.asideL (by omega)).asideL (by omega)).c0, ((x_up.asideL (by omega)).asideL (by omega)).c1, ((x_by.asideL (by omega)).asideL (by omega)).c0, ((x_by.asideL (by omega)).asideL (by omega)).c1, ((x_b.asideL (by omega)).asideL (by omega)).c0, ((x_b.asideL (by omega)).asideL (by omega)).c1, ((x_b.asideL (by omega)).asideL (by omega)).c2, ((x_b.asideL (by omega)).asideL (by omega)).c3, ((x_b.asideL (by omega)).asideL (by omega)).c4⟩) | go_keep)
   (first | (go_at_call 39; (with_reducible refine (RMulZ_any z10.zr.drw z5.zr.drw 80 (by omega) (by omega)).mono ?_); rintro e v203 ⟨A11, n11, c11, rfl, z11, hb1⟩; replace hb1 := undrew hb1; obtain ⟨x_b, x_r, x_t, x_by, x_le, x_mo, x_up, h, h2⟩ := mv9 hb1 x_b x_r x_t x_by x_le x_mo x_up h h2; obtain ⟨z5, yl, ym, z10, hb⟩ := mv5 hb1 z5 yl ym z10 hb; clear hb1; replace q_b := x_b.al; replace q_by := x_by.al; replace q_le := x_le.al; replace q_mo := x_mo.al; replace q_up := x_up.al; rw [HX.out.2.2.2.1] at z11 ⊢) | (go_at_call 37; (with_reducible refine (RCmpZ_any z11.zr h2 100 (by omega) (by omega) (by omega)).mono ?_); rintro e v204 ⟨rfl, hb1⟩; obtain ⟨x_b, x_r, x_t, x_by, x_le, x_mo, x_up, h, h2⟩ := mv9 hb1 x_b x_r x_t x_by x_le x_mo x_up h h2; obtain ⟨z5, yl, ym, z10, z11, hb⟩ := mv6 hb1 z5 yl ym z10 z11 hb; clear hb1; replace q_b := x_b.al; replace q_by := x_by.al; replace q_le := x_le.al; replace q_mo := x_mo.al; replace q_up := x_up.al; rw [HC2.out]))
  clear z11
  by_cases hC : C2 ≤ 0
  focus
   go_upto_region 15 with fail
   clear q_b q_by q_le q_mo q_up
   refine x_le.st fun v205 hs hx => ?_
   obtain ⟨x_b, x_r, x_t, x_by, x_mo, x_up, h, h2, z5⟩ := ms9 hs ⟨by omega, by omega, by omega, by omega, by omega, by omega, trivial, trivial, trivial⟩ x_b x_r x_t x_by x_mo x_up h h2 z5
   obtain ⟨yl, ym, z10, hb⟩ := ms4 hs ⟨trivial, trivial, trivial, by omega⟩ yl ym z10 hb
   replace x_le := hx; clear hx hs
   have q_b := x_b.al
   have q_by := x_by.al
   have q_le := x_le.al
   have q_mo := x_mo.al
   have q_up := x_up.al
   obtain ⟨Fl, il, jl, L1, y_le, yl, hL1⟩ : ∃ Fl il jl L1, Bx v205 (v9.heap.size) (ngB L1) Fl il jl ∧ Zn v205 Fl il jl L1 160 ∧ L1 = LL := ⟨none, 0, 0, 0, x_le, Zn.nul _ _, by rw [← HLL.out, if_pos (e2.1 hC)]⟩
   clear e2 hC q_le x_le q_up x_up z10
   generalize v205 = t at *
  rotate_left
  focus
   go_upto_region 15 with fail
   obtain ⟨Fl, il, jl, L1, y_le, yl, hL1⟩ : ∃ Fl il jl L1, Bx v204 (v9.heap.size) (ngB L1) Fl il jl ∧ Zn v204 Fl il jl L1 160 ∧ L1 = LL := ⟨_, _, _, _, x_le, yl, by rw [← HLL.out, if_neg (by have := mt e2.2 (by omega); omega), HL0.out]⟩
   clear e2 hC q_le x_le q_up x_up z10
   generalize v204 = t at *
  all_goals
   subst hL1
   have x_le := y_le; clear y_le
   have q_le := x_le.al
   rcases (show s = 0 ∨ ¬ s = 0 by omega) with h0 | h0
   ·have hb0 : ((s : Int) == 0) = true := by simp; omega
    have HN : Hid (MM = M0) := Lib.hid (by rw [← HMM.out, if_pos h0, HM0.out])
    clear h0 e3
    go_upto_region 16 with fail
    have q_r := x_r.al
    have q_t := x_t.al
    go_region_held3 (fun w' => w'.cell? ⟨v9.heap.size, 0, none⟩ = some (.bool (ngB L1)) ∧ w'.cell? ⟨v9.heap.size, 1, none⟩ = some (.slice Fl il jl) ∧ w'.cell? ⟨v10.heap.size, 0, none⟩ = some (.bool (ngB M0)) ∧ w'.cell? ⟨v10.heap.size, 1, none⟩ = some (.slice Fm im jm))
     (first | (with_reducible exact ⟨x_le.drew.c0, x_le.drew.c1, x_mo.drew.c0, x_mo.drew.c1⟩) | (with_reducible exact ⟨(x_le.aside (by omega)).drew.c0, (x_le.aside (by omega)).drew.c1, (x_mo.aside (by omega)).drew.c0, (x_mo.aside (by omega)).drew.c1⟩) | (with_reducible exact ⟨((x_le.aside (by omega)).aside (by omega)).drew.c0, ((x_le.aside (by omega)).aside (by omega)).drew.c1, ((x_mo.aside (by omega)).aside (by omega)).drew.c0, ((x_mo.aside (by omega)).aside (by omega)).drew.c1⟩) | go_keep)
     (first | fail)
    skip
    replace x_b := x_b.aside (b' := (ngB L1)) (A' := Fl) (n' := il) (c' := jl) (g := w.heap.size + 1) (by omega)
    replace x_t := x_t.aside (b' := (ngB L1)) (A' := Fl) (n' := il) (c' := jl) (g := w.heap.size + 1) (by omega)
    replace x_by := x_by.aside (b' := (ngB L1)) (A' := Fl) (n' := il) (c' := jl) (g := w.heap.size + 1) (by omega)
    replace x_le := x_le.aside (b' := (ngB L1)) (A' := Fl) (n' := il) (c' := jl) (g := w.heap.size + 1) (by omega)
    replace x_mo := x_mo.aside (b' := (ngB L1)) (A' := Fl) (n' := il) (c' := jl) (g := w.heap.size + 1) (by omega)
    replace h := h.put (b' := (ngB L1)) (A' := Fl) (n' := il) (c' := jl) x_r
    replace h2 := h2.put (b' := (ngB L1)) (A' := Fl) (n' := il) (c' := jl) x_r
    replace z5 := z5.put (b' := (ngB L1)) (A' := Fl) (n' := il) (c' := jl) x_r
    replace yl := yl.put (b' := (ngB L1)) (A' := Fl) (n' := il) (c' := jl) x_r
    replace ym := ym.put (b' := (ngB L1)) (A' := Fl) (n' := il) (c' := jl) x_r
    replace hb := put_below (g := w.heap.size + 1) hb (by omega) (.bool (ngB L1)) (.slice Fl il jl)
    replace x_r := x_r.put (ngB L1) Fl il jl
    clear q_b q_r q_t q_by q_le q_mo
    generalize (t.setCell ⟨w.heap.size + 1, 0, none⟩ (.bool (ngB L1))).setCell ⟨w.heap.size + 1, 1, none⟩ (.slice Fl il jl) = v401 at *
    have q_b := x_b.al
    have q_r := x_r.al
    have q_t := x_t.al
    have q_by := x_by.al
    have q_le := x_le.al
    have q_mo := x_mo.al
    replace x_b := x_b.aside (b' := (ngB M0)) (A' := Fm) (n' := im) (c' := jm) (g := w.heap.size + 1 + 1) (by omega)
    replace x_r := x_r.aside (b' := (ngB M0)) (A' := Fm) (n' := im) (c' := jm) (g := w.heap.size + 1 + 1) (by omega)
    replace x_by := x_by.aside (b' := (ngB M0)) (A' := Fm) (n' := im) (c' := jm) (g := w.heap.size + 1 + 1) (by omega)
    replace x_le := x_le.aside (b' := (ngB M0)) (A' := Fm) (n' := im) (c' := jm) (g := w.heap.size + 1 + 1) (by omega)
    replace x_mo := x_mo.aside (b' := (ngB M0)) (A' := Fm) (n' := im) (c' := jm) (g := w.heap.size + 1 + 1) (by omega)
    replace h := h.put (b' := (ngB M0)) (A' := Fm) (n' := im) (c' := jm) x_t
    replace h2 := h2.put (b' := (ngB M0)) (A' := Fm) (n' := im) (c' := jm) x_t
    replace z5 := z5.put (b' := (ngB M0)) (A' := Fm) (n' := im) (c' := jm) x_t
    replace yl := yl.put (b' := (ngB M0)) (A' := Fm) (n' := im) (c' := jm) x_t
    replace ym := ym.put (b' := (ngB M0)) (A' := Fm) (n' := im) (c' := jm) x_t
    replace hb := put_below (g := w.heap.size + 1 + 1) hb (by omega) (.bool (ngB M0)) (.slice Fm im jm)
    replace x_t := x_t.put (ngB M0) Fm im jm
    clear q_b q_r q_t q_by q_le q_mo
    generalize (v401.setCell ⟨w.heap.size + 1 + 1, 0, none⟩ (.bool (ngB M0))).setCell ⟨w.heap.size + 1 + 1, 1, none⟩ (.slice Fm im jm) = v402 at *
    have q_b := x_b.al
    have q_r := x_r.al
    have q_t := x_t.al
    have q_by := x_by.al
    have q_le := x_le.al
    have q_mo := x_mo.al
    replace x_b := x_b.drew
    replace x_r := x_r.drew
    replace x_t := x_t.drew
    replace x_by := x_by.drew
    replace x_le := x_le.drew
    replace x_mo := x_mo.drew
    replace h := h.drw
    replace h2 := h2.drw
    replace z5 := z5.drw
    replace yl := yl.drw
    replace ym := ym.drw
    replace hb := below_drew hb
    clear q_b q_r q_t q_by q_le q_mo
    generalize v402.drew = v403 at *
    have q_b := x_b.al
    have q_r := x_r.al
    have q_t := x_t.al
    have q_by := x_by.al
    have q_le := x_le.al
    have q_mo := x_mo.al
    go_wp2
    refine bodyPost_ret (v := .tuple #[.agg #[.bool (ngB L1), .slice Fl il jl], .agg #[.bool (ngB M0), .slice Fm im jm], .int .i64 0]) (by simp [results, Tryz.results11, go_sem, q_r, q_t]) rfl ?_
    rw [HN.out]
    exact ⟨_, _, _, _, _, _, rfl, yl.wide (by omega), ym.wide (by omega), hb⟩
   ·have hb0 : ((s : Int) == 0) = false := by simp; omega
    have HN : Hid (MM = if P ≤ Y then H else max D1 D2) := Lib.hid (by rw [← HMM.out, if_neg h0])
    have HSJ := Lib.hid (HSH.out h0); clear h0
    go_wp2_with fail
    with_reducible refine (ROf_any 1 (by omega) (by omega)).mono ?_
    rintro e v401 ⟨A12, n12, c12, rfl, z12, hb1⟩
    obtain ⟨x_b, x_r, x_t, x_by, x_le, x_mo, h, h2, z5⟩ := mv9 hb1 x_b x_r x_t x_by x_le x_mo h h2 z5
    obtain ⟨yl, ym, hb⟩ := mv3 hb1 yl ym hb
    clear hb1
    replace q_b := x_b.al
    replace q_by := x_by.al
    replace q_le := x_le.al
    replace q_mo := x_mo.al
    go_wp2_with fail
    with_reducible refine (RShlZ_any z12.zr ((s : Int) - 1) 130 (by omega) (by omega)).mono ?_
    rintro e v402 ⟨A13, n13, c13, rfl, z13, hb1⟩
    obtain ⟨x_b, x_r, x_t, x_by, x_le, x_mo, h, h2, z5⟩ := mv9 hb1 x_b x_r x_t x_by x_le x_mo h h2 z5
    obtain ⟨yl, ym, z12, hb⟩ := mv4 hb1 yl ym z12 hb
    clear hb1
    replace q_b := x_b.al
    replace q_by := x_by.al
    replace q_le := x_le.al
    replace q_mo := x_mo.al
    rw [HSJ.out.1, HSJ.out.2, Int.one_mul] at z13 ⊢; replace z13 := z13.slim HSI.out
    have y_b := ((x_b.alloc (.cells #[.bool (ngB H), .slice A13 n13 c13] 24))).al
    have y_by := ((x_by.alloc (.cells #[.bool (ngB H), .slice A13 n13 c13] 24))).al
    have y_le := ((x_le.alloc (.cells #[.bool (ngB H), .slice A13 n13 c13] 24))).al
    have y_mo := ((x_mo.alloc (.cells #[.bool (ngB H), .slice A13 n13 c13] 24))).al
    go_upto_region 18 with fail
    clear y_b y_by y_le y_mo
    have l_b_ha := x_b.lt
    have l_r_ha := x_r.lt
    have l_t_ha := x_t.lt
    have l_by_ha := x_by.lt
    have l_le_ha := x_le.lt
    have l_mo_ha := x_mo.lt
    have e_ha : w.heap.size ≤ v402.heap.size := hb.size
    clear q_b q_by q_le q_mo
    refine al1 fun v403 hb1 x_ha => ?_
    replace x_ha := Bx.of x_ha
    obtain ⟨x_b, x_r, x_t, x_by, x_le, x_mo, h, h2, z5⟩ := mv9 hb1 x_b x_r x_t x_by x_le x_mo h h2 z5
    obtain ⟨yl, ym, z13, hb⟩ := mv4 hb1 yl ym z13 hb
    clear hb1
    have q_b := x_b.al
    have q_by := x_by.al
    have q_le := x_le.al
    have q_mo := x_mo.al
    have q_ha := x_ha.al
    go_upto_region 18 with fail
    have hv := Below.refl v403.heap.size v403
    have l_b_od := x_b.lt
    have l_r_od := x_r.lt
    have l_t_od := x_t.lt
    have l_by_od := x_by.lt
    have l_le_od := x_le.lt
    have l_mo_od := x_mo.lt
    have l_ha_od := x_ha.lt
    go_cut [16, 17] (fun s9 t9 wx => t9 = .bool true ∧ BnNew1 v403 O 54 s9 wx)
    case first =>
     go_region_held3 (fun w' => w'.cell? ⟨w.heap.size, 0, none⟩ = some (.bool b) ∧ w'.cell? ⟨w.heap.size, 1, none⟩ = some (.slice A n c) ∧ w'.cell? ⟨w.heap.size, 2, none⟩ = some (.bool b2) ∧ w'.cell? ⟨w.heap.size, 3, none⟩ = some (.slice A2 n2 c2) ∧ w'.cell? ⟨w.heap.size, 4, none⟩ = some (.int .i64 q) ∧ w'.cell? ⟨v402.heap.size, 0, none⟩ = some (.bool (ngB H)) ∧ w'.cell? ⟨v402.heap.size, 1, none⟩ = some (.slice A13 n13 c13) ∧ w'.cell? ⟨v4.heap.size, 0, none⟩ = some (.bool (ngB T)) ∧ w'.cell? ⟨v4.heap.size, 1, none⟩ = some (.slice A5 n5 c5))
      (first | (with_reducible exact ⟨x_b.c0, x_b.c1, x_b.c2, x_b.c3, x_b.c4, x_ha.c0, x_ha.c1, x_by.c0, x_by.c1⟩) | (with_reducible exact ⟨(x_b.alloc _).c0, (x_b.alloc _).c1, (x_b.alloc _).c2, (x_b.alloc _).c3, (x_b.alloc _).c4, (x_ha.alloc _).c0, (x_ha.alloc _).c1, (x_by.alloc _).c0, (x_by.alloc _).c1⟩) | (with_reducible exact ⟨(x_b.aside (by omega)).c0, (x_b.aside (by omega)).c1, (x_b.aside (by omega)).c2, (x_b.aside (by omega)).c3, (x_b.aside (by omega)).c4, (x_ha.aside (by omega)).c0, (x_ha.aside (by omega)).c1, (x_by.aside (by omega)).c0, (x_by.aside (by omega)).c1⟩) | (with_reducible exact ⟨((x_b.alloc _).aside (by omega)).c0, ((x_b.alloc _).aside (by omega)).c1, ((x_b.alloc _).aside (by omega)).c2, ((x_b.alloc _).aside (by omega)).c3, ((x_b.alloc _).aside (by omega)).c4, ((x_ha.alloc _).aside (by omega)).c0, ((x_ha.alloc _).aside (by omega)).c1, ((x_by.alloc _).aside (by omega)).c0, ((x_by.alloc _).aside (by omega)).c1⟩) | go_keep)
      (first | (go_at_call 40; (with_reducible refine (RSubZ_any h.drw z13.drw.zr 40 (by omega) (by omega) (by omega)).mono ?_); rintro e v404 ⟨A14, n14, c14, rfl, z14, hb1⟩; replace hb1 := undrew hb1; (try replace x_od := x_od.keep hb1); replace hv := bthen hv hb1; have hvs_v404 := hv.size; obtain ⟨x_b, x_r, x_t, x_by, x_le, x_mo, x_ha, h, h2⟩ := mv9 hb1 x_b x_r x_t x_by x_le x_mo x_ha h h2; obtain ⟨z5, yl, ym, z13, hb⟩ := mv5 hb1 z5 yl ym z13 hb; clear hb1; replace q_b := x_b.al; replace q_by := x_by.al; replace q_le := x_le.al; replace q_mo := x_mo.al; replace q_ha := x_ha.al; (try (obtain ⟨q_od0, f_od0, q_od1, f_od1⟩ := x_od.al))) | (go_at_call 40; (with_reducible refine (RSubZ_any (h.keep (below_alloc v403 (.cells #[.bool false, .slice none 0 0] 24))).drw (z13.keep (below_alloc v403 (.cells #[.bool false, .slice none 0 0] 24))).drw.zr 40 (by omega) (by omega) (by omega)).mono ?_); rintro e v404 ⟨A14, n14, c14, rfl, z14, hb1⟩; replace hb1 := undrew hb1; have x_od := (Bx.new v403 false none 0 0).keep hb1; replace hb1 := bthen (below_alloc v403 (.cells #[.bool false, .slice none 0 0] 24)) hb1; replace hv := bthen hv hb1; have hvs_v404 := hv.size; obtain ⟨x_b, x_r, x_t, x_by, x_le, x_mo, x_ha, h, h2⟩ := mv9 hb1 x_b x_r x_t x_by x_le x_mo x_ha h h2; obtain ⟨z5, yl, ym, z13, hb⟩ := mv5 hb1 z5 yl ym z13 hb; clear hb1; replace q_b := x_b.al; replace q_by := x_by.al; replace q_le := x_le.al; replace q_mo := x_mo.al; replace q_ha := x_ha.al; (try (obtain ⟨q_od0, f_od0, q_od1, f_od1⟩ := x_od.al))) | (go_at_call 38; (with_reducible refine (RUpZ_any z14.zr z5.zr (by omega) 50 (by omega) (by omega) (by omega)).mono ?_); rintro e v405 ⟨A15, n15, c15, rfl, z15, hb1⟩; (try replace x_od := x_od.keep hb1); replace hv := bthen hv hb1; have hvs_v405 := hv.size; obtain ⟨x_b, x_r, x_t, x_by, x_le, x_mo, x_ha, h, h2⟩ := mv9 hb1 x_b x_r x_t x_by x_le x_mo x_ha h h2; obtain ⟨z5, yl, ym, z13, z14, hb⟩ := mv6 hb1 z5 yl ym z13 z14 hb; clear hb1; replace q_b := x_b.al; replace q_by := x_by.al; replace q_le := x_le.al; replace q_mo := x_mo.al; replace q_ha := x_ha.al; rw [HX.out.2.2.2.2.1] at z15 ⊢; (try (obtain ⟨q_od0, f_od0, q_od1, f_od1⟩ := x_od.al))) | (go_at_call 38; (with_reducible refine (RUpZ_any (z14.keep (below_alloc v404 (.cells #[.bool false, .slice none 0 0] 24))).zr (z5.keep (below_alloc v404 (.cells #[.bool false, .slice none 0 0] 24))).zr (by omega) 50 (by omega) (by omega) (by omega)).mono ?_); rintro e v405 ⟨A15, n15, c15, rfl, z15, hb1⟩; have x_od := (Bx.new v404 false none 0 0).keep hb1; replace hb1 := bthen (below_alloc v404 (.cells #[.bool false, .slice none 0 0] 24)) hb1; replace hv := bthen hv hb1; have hvs_v405 := hv.size; obtain ⟨x_b, x_r, x_t, x_by, x_le, x_mo, x_ha, h, h2⟩ := mv9 hb1 x_b x_r x_t x_by x_le x_mo x_ha h h2; obtain ⟨z5, yl, ym, z13, z14, hb⟩ := mv6 hb1 z5 yl ym z13 z14 hb; clear hb1; replace q_b := x_b.al; replace q_by := x_by.al; replace q_le := x_le.al; replace q_mo := x_mo.al; replace q_ha := x_ha.al; rw [HX.out.2.2.2.2.1] at z15 ⊢; (try (obtain ⟨q_od0, f_od0, q_od1, f_od1⟩ := x_od.al))))
     all_goals go_wp2_with fail
     all_goals go_meet
     all_goals first | (with_reducible exact ⟨rfl, BnNew1.new hv z15⟩) | (with_reducible exact ⟨rfl, BnNew1.put hv x_od (by omega) z15⟩)
    obtain ⟨rfl, g406, Ax407, nx407, cx407, rfl, x_od, z_od, e_od, hb1⟩ := hcut
    clear hv
    obtain ⟨x_b, x_r, x_t, x_by, x_le, x_mo, x_ha, h, h2⟩ := mv9 hb1 x_b x_r x_t x_by x_le x_mo x_ha h h2
    obtain ⟨z5, yl, ym, z13, hb⟩ := mv5 hb1 z5 yl ym z13 hb
    clear hb1
    replace q_b := x_b.al
    replace q_by := x_by.al
    replace q_le := x_le.al
    replace q_mo := x_mo.al
    replace q_ha := x_ha.al
    clear q_b q_by q_le q_mo q_ha
    generalize wc = v408 at *
    have q_b := x_b.al
    have q_by := x_by.al
    have q_le := x_le.al
    have q_mo := x_mo.al
    have q_ha := x_ha.al
    have q_od := x_od.al
    go_upto_region 19 with fail
    go_region_held3 (fun w' => w'.cell? ⟨g406, 0, none⟩ = some (.bool (ngB O)) ∧ w'.cell? ⟨g406, 1, none⟩ = some (.slice Ax407 nx407 cx407) ∧ w'.cell? ⟨v4.heap.size, 0, none⟩ = some (.bool (ngB T)) ∧ w'.cell? ⟨v4.heap.size, 1, none⟩ = some (.slice A5 n5 c5) ∧ w'.cell? ⟨v402.heap.size, 0, none⟩ = some (.bool (ngB H)) ∧ w'.cell? ⟨v402.heap.size, 1, none⟩ = some (.slice A13 n13 c13) ∧ w'.cell? ⟨w.heap.size, 0, none⟩ = some (.bool b) ∧ w'.cell? ⟨w.heap.size, 1, none⟩ = some (.slice A n c) ∧ w'.cell? ⟨w.heap.size, 2, none⟩ = some (.bool b2) ∧ w'.cell? ⟨w.heap.size, 3, none⟩ = some (.slice A2 n2 c2) ∧ w'.cell? ⟨w.heap.size, 4, none⟩ = some (.int .i64 q))
     (first | (with_reducible exact ⟨x_od.c0, x_od.c1, x_by.c0, x_by.c1, x_ha.c0, x_ha.c1, x_b.c0, x_b.c1, x_b.c2, x_b.c3, x_b.c4⟩) | (with_reducible exact ⟨(x_od.aside (by omega)).c0, (x_od.aside (by omega)).c1, (x_by.aside (by omega)).c0, (x_by.aside (by omega)).c1, (x_ha.aside (by omega)).c0, (x_ha.aside (by omega)).c1, (x_b.aside (by omega)).c0, (x_b.aside (by omega)).c1, (x_b.aside (by omega)).c2, (x_b.aside (by omega)).c3, (x_b.aside (by omega)).c4⟩) | (with_reducible exact ⟨((x_od.aside (by omega)).aside (by omega)).c0, ((x_od.aside (by omega)).aside (by omega)).c1, ((x_by.aside (by omega)).aside (by omega)).c0, ((x_by.aside (by omega)).aside (by omega)).c1, ((x_ha.aside (by omega)).aside (by omega)).c0, ((x_ha.aside (by omega)).aside (by omega)).c1, ((x_b.aside (by omega)).aside (by omega)).c0, ((x_b.aside (by omega)).aside (by omega)).c1, ((x_b.aside (by omega)).aside (by omega)).c2, ((x_b.aside (by omega)).aside (by omega)).c3, ((x_b.aside (by omega)).aside (by omega)).c4⟩) | (with_reducible exact ⟨(x_od.asideD (by omega)).c0, (x_od.asideD (by omega)).c1, (x_by.asideD (by omega)).c0, (x_by.asideD (by omega)).c1, (x_ha.asideD (by omega)).c0, (x_ha.asideD (by omega)).c1, (x_b.asideD (by omega)).c0, (x_b.asideD (by omega)).c1, (x_b.asideD (by omega)).c2, (x_b.asideD (by omega)).c3, (x_b.asideD (by omega)).c4⟩) | (with_reducible exact ⟨((x_od.asideD (by omega)).asideD (by omega)).c0, ((x_od.asideD (by omega)).asideD (by omega)).c1, ((x_by.asideD (by omega)).asideD (by omega)).c0, ((x_by.asideD (by omega)).asideD (by omega)).c1, ((x_ha.asideD (by omega)).asideD (by omega)).c0, ((x_ha.asideD (by omega)).asideD (by omega)).c1, ((x_b.asideD (by omega)).asideD (by omega)).c0, ((x_b.asideD (by omega)).asideD (by omega)).c1, ((x_b.asideD (by omega)).asideD (by omega)).c2, ((x_b.asideD (by omega)).asideD (by omega)).c3, ((x_b.asideD (by omega)).asideD (by omega)).c4⟩) | (with_reducible exact ⟨(x_od.asideL (by omega)).c0, (x_od.asideL (by omega)).c1, (x_by.asideL (by omega)).c0, (x_by.asideL (by omega)).c1, (x_ha.asideL (by omega)).c0, (x_ha.asideL (by omega)).c1, (x_b.asideL (by omega)).c0, (x_b.asideL (by omega)).c1, (x_b.asideL (by omega)).c2, (x_b.asideL (by omega)).c3, (x_b.asideL (by omega)).c4⟩) | (with_reducible exact ⟨((x_od.asideL (by omega)).asideL (by omega)).c0, ((x_od.asideL (by omega)).asideL (by omega)).c1, ((x_by.asideL (by omega)).asideL (by omega)).c0, ((x_by.asideL (by omega)).asideL (by omega)).c1, ((x_ha.asideL (by omega)).asideL (by omega)).c0, ((x_ha.asideL (by omega)).asideL (by omega)).c1, ((x_b.asideL (by omega)).asideL (by omega)).c0, ((x_b.asideL (by omega)).asideL (by omega)).c1, ((x_b.asideL (by omega)).asideL (by omega)).c2, ((x_b.asideL (by omega)).asideL (by omega)).c3, ((x_b.asideL (by omega)).asideL (by omega)).c4⟩) | go_keep)
     (first | (go_at_call 39; (with_reducible refine (RMulZ_any z_od.zr.drw z5.zr.drw 90 (by omega) (by omega)).mono ?_); rintro e v409 ⟨A16, n16, c16, rfl, z16, hb1⟩; replace hb1 := undrew hb1; obtain ⟨x_b, x_r, x_t, x_by, x_le, x_mo, x_ha, x_od, h⟩ := mv9 hb1 x_b x_r x_t x_by x_le x_mo x_ha x_od h; obtain ⟨h2, z5, yl, ym, z13, z_od, hb⟩ := mv7 hb1 h2 z5 yl ym z13 z_od hb; clear hb1; replace q_b := x_b.al; replace q_by := x_by.al; replace q_le := x_le.al; replace q_mo := x_mo.al; replace q_ha := x_ha.al; replace q_od := x_od.al) | (go_at_call 41; (with_reducible refine (RAddZ_any z16.zr z13.zr 100 (by omega) (by omega) (by omega)).mono ?_); rintro e v410 ⟨A17, n17, c17, rfl, z17, hb1⟩; obtain ⟨x_b, x_r, x_t, x_by, x_le, x_mo, x_ha, x_od, h⟩ := mv9 hb1 x_b x_r x_t x_by x_le x_mo x_ha x_od h; obtain ⟨h2, z5, yl, ym, z13, z_od, z16, hb⟩ := mv8 hb1 h2 z5 yl ym z13 z_od z16 hb; clear hb1; replace q_b := x_b.al; replace q_by := x_by.al; replace q_le := x_le.al; replace q_mo := x_mo.al; replace q_ha := x_ha.al; replace q_od := x_od.al; rw [HX.out.2.2.2.2.2] at z17 ⊢) | (go_at_call 37; (with_reducible refine (RCmpZ_any z17.zr h2 120 (by omega) (by omega) (by omega)).mono ?_); rintro e v411 ⟨rfl, hb1⟩; obtain ⟨x_b, x_r, x_t, x_by, x_le, x_mo, x_ha, x_od, h⟩ := mv9 hb1 x_b x_r x_t x_by x_le x_mo x_ha x_od h; obtain ⟨h2, z5, yl, ym, z13, z_od, z16, z17, hb⟩ := mv9 hb1 h2 z5 yl ym z13 z_od z16 z17 hb; clear hb1; replace q_b := x_b.al; replace q_by := x_by.al; replace q_le := x_le.al; replace q_mo := x_mo.al; replace q_ha := x_ha.al; replace q_od := x_od.al; rw [HC3.out]))
    clear z16 z17
    by_cases hC : C3 ≤ 0
    ·go_upto_region 21 with fail
     clear q_b q_by q_le q_mo q_ha q_od
     refine x_mo.st fun v412 hs hx => ?_
     obtain ⟨x_b, x_r, x_t, x_by, x_le, x_ha, x_od, h, h2⟩ := ms9 hs ⟨by omega, by omega, by omega, by omega, by omega, by omega, by omega, trivial, trivial⟩ x_b x_r x_t x_by x_le x_ha x_od h h2
     obtain ⟨z5, yl, ym, z13, z_od, hb⟩ := ms6 hs ⟨trivial, trivial, trivial, trivial, trivial, by omega⟩ z5 yl ym z13 z_od hb
     replace x_mo := hx; clear hx hs
     have q_b := x_b.al
     have q_by := x_by.al
     have q_le := x_le.al
     have q_mo := x_mo.al
     have q_ha := x_ha.al
     have q_od := x_od.al
     have HN2 : Hid (MM = H) := Lib.hid (by rw [HN.out, if_pos (e3.1 hC)])
     replace HN := HN2; clear HN2
     replace ym := z13
     have q_r := x_r.al
     have q_t := x_t.al
     go_region_held3 (fun w' => w'.cell? ⟨v9.heap.size, 0, none⟩ = some (.bool (ngB L1)) ∧ w'.cell? ⟨v9.heap.size, 1, none⟩ = some (.slice Fl il jl) ∧ w'.cell? ⟨v10.heap.size, 0, none⟩ = some (.bool (ngB H)) ∧ w'.cell? ⟨v10.heap.size, 1, none⟩ = some (.slice A13 n13 c13))
      (first | (with_reducible exact ⟨x_le.drew.c0, x_le.drew.c1, x_mo.drew.c0, x_mo.drew.c1⟩) | (with_reducible exact ⟨(x_le.aside (by omega)).drew.c0, (x_le.aside (by omega)).drew.c1, (x_mo.aside (by omega)).drew.c0, (x_mo.aside (by omega)).drew.c1⟩) | (with_reducible exact ⟨((x_le.aside (by omega)).aside (by omega)).drew.c0, ((x_le.aside (by omega)).aside (by omega)).drew.c1, ((x_mo.aside (by omega)).aside (by omega)).drew.c0, ((x_mo.aside (by omega)).aside (by omega)).drew.c1⟩) | go_keep)
      (first | fail)
     skip
     replace x_b := x_b.aside (b' := (ngB L1)) (A' := Fl) (n' := il) (c' := jl) (g := w.heap.size + 1) (by omega)
     replace x_t := x_t.aside (b' := (ngB L1)) (A' := Fl) (n' := il) (c' := jl) (g := w.heap.size + 1) (by omega)
     replace x_by := x_by.aside (b' := (ngB L1)) (A' := Fl) (n' := il) (c' := jl) (g := w.heap.size + 1) (by omega)
     replace x_le := x_le.aside (b' := (ngB L1)) (A' := Fl) (n' := il) (c' := jl) (g := w.heap.size + 1) (by omega)
     replace x_mo := x_mo.aside (b' := (ngB L1)) (A' := Fl) (n' := il) (c' := jl) (g := w.heap.size + 1) (by omega)
     replace x_ha := x_ha.aside (b' := (ngB L1)) (A' := Fl) (n' := il) (c' := jl) (g := w.heap.size + 1) (by omega)
     replace x_od := x_od.aside (b' := (ngB L1)) (A' := Fl) (n' := il) (c' := jl) (g := w.heap.size + 1) (by omega)
     replace h := h.put (b' := (ngB L1)) (A' := Fl) (n' := il) (c' := jl) x_r
     replace h2 := h2.put (b' := (ngB L1)) (A' := Fl) (n' := il) (c' := jl) x_r
     replace z5 := z5.put (b' := (ngB L1)) (A' := Fl) (n' := il) (c' := jl) x_r
     replace yl := yl.put (b' := (ngB L1)) (A' := Fl) (n' := il) (c' := jl) x_r
     replace ym := ym.put (b' := (ngB L1)) (A' := Fl) (n' := il) (c' := jl) x_r
     replace z13 := z13.put (b' := (ngB L1)) (A' := Fl) (n' := il) (c' := jl) x_r
     replace z_od := z_od.put (b' := (ngB L1)) (A' := Fl) (n' := il) (c' := jl) x_r
     replace hb := put_below (g := w.heap.size + 1) hb (by omega) (.bool (ngB L1)) (.slice Fl il jl)
     replace x_r := x_r.put (ngB L1) Fl il jl
     clear q_b q_r q_t q_by q_le q_mo q_ha q_od
     generalize (v412.setCell ⟨w.heap.size + 1, 0, none⟩ (.bool (ngB L1))).setCell ⟨w.heap.size + 1, 1, none⟩ (.slice Fl il jl) = v413 at *
     have q_b := x_b.al
     have q_r := x_r.al
     have q_t := x_t.al
     have q_by := x_by.al
     have q_le := x_le.al
     have q_mo := x_mo.al
     have q_ha := x_ha.al
     have q_od := x_od.al
     replace x_b := x_b.aside (b' := (ngB H)) (A' := A13) (n' := n13) (c' := c13) (g := w.heap.size + 1 + 1) (by omega)
     replace x_r := x_r.aside (b' := (ngB H)) (A' := A13) (n' := n13) (c' := c13) (g := w.heap.size + 1 + 1) (by omega)
     replace x_by := x_by.aside (b' := (ngB H)) (A' := A13) (n' := n13) (c' := c13) (g := w.heap.size + 1 + 1) (by omega)
     replace x_le := x_le.aside (b' := (ngB H)) (A' := A13) (n' := n13) (c' := c13) (g := w.heap.size + 1 + 1) (by omega)
     replace x_mo := x_mo.aside (b' := (ngB H)) (A' := A13) (n' := n13) (c' := c13) (g := w.heap.size + 1 + 1) (by omega)
     replace x_ha := x_ha.aside (b' := (ngB H)) (A' := A13) (n' := n13) (c' := c13) (g := w.heap.size + 1 + 1) (by omega)
     replace x_od := x_od.aside (b' := (ngB H)) (A' := A13) (n' := n13) (c' := c13) (g := w.heap.size + 1 + 1) (by omega)
     replace h := h.put (b' := (ngB H)) (A' := A13) (n' := n13) (c' := c13) x_t
     replace h2 := h2.put (b' := (ngB H)) (A' := A13) (n' := n13) (c' := c13) x_t
     replace z5 := z5.put (b' := (ngB H)) (A' := A13) (n' := n13) (c' := c13) x_t
     replace yl := yl.put (b' := (ngB H)) (A' := A13) (n' := n13) (c' := c13) x_t
     replace ym := ym.put (b' := (ngB H)) (A' := A13) (n' := n13) (c' := c13) x_t
     replace z13 := z13.put (b' := (ngB H)) (A' := A13) (n' := n13) (c' := c13) x_t
     replace z_od := z_od.put (b' := (ngB H)) (A' := A13) (n' := n13) (c' := c13) x_t
     replace hb := put_below (g := w.heap.size + 1 + 1) hb (by omega) (.bool (ngB H)) (.slice A13 n13 c13)
     replace x_t := x_t.put (ngB H) A13 n13 c13
     clear q_b q_r q_t q_by q_le q_mo q_ha q_od
     generalize (v413.setCell ⟨w.heap.size + 1 + 1, 0, none⟩ (.bool (ngB H))).setCell ⟨w.heap.size + 1 + 1, 1, none⟩ (.slice A13 n13 c13) = v414 at *
     have q_b := x_b.al
     have q_r := x_r.al
     have q_t := x_t.al
     have q_by := x_by.al
     have q_le := x_le.al
     have q_mo := x_mo.al
     have q_ha := x_ha.al
     have q_od := x_od.al
     replace x_b := x_b.drew
     replace x_r := x_r.drew
     replace x_t := x_t.drew
     replace x_by := x_by.drew
     replace x_le := x_le.drew
     replace x_mo := x_mo.drew
     replace x_ha := x_ha.drew
     replace x_od := x_od.drew
     replace h := h.drw
     replace h2 := h2.drw
     replace z5 := z5.drw
     replace yl := yl.drw
     replace ym := ym.drw
     replace z13 := z13.drw
     replace z_od := z_od.drw
     replace hb := below_drew hb
     clear q_b q_r q_t q_by q_le q_mo q_ha q_od
     generalize v414.drew = v415 at *
     have q_b := x_b.al
     have q_r := x_r.al
     have q_t := x_t.al
     have q_by := x_by.al
     have q_le := x_le.al
     have q_mo := x_mo.al
     have q_ha := x_ha.al
     have q_od := x_od.al
     go_wp2
     refine bodyPost_ret (v := .tuple #[.agg #[.bool (ngB L1), .slice Fl il jl], .agg #[.bool (ngB H), .slice A13 n13 c13], .int .i64 0]) (by simp [results, Tryz.results11, go_sem, q_r, q_t]) rfl ?_
     rw [HN.out]
     exact ⟨_, _, _, _, _, _, rfl, yl.wide (by omega), ym.wide (by omega), hb⟩
    ·go_upto_region 21 with fail
     have HN2 : Hid (MM = M0) := Lib.hid (by rw [HN.out, if_neg (by have := mt e3.2 (by omega); omega), HM0.out])
     replace HN := HN2; clear HN2
     have q_r := x_r.al
     have q_t := x_t.al
     go_region_held3 (fun w' => w'.cell? ⟨v9.heap.size, 0, none⟩ = some (.bool (ngB L1)) ∧ w'.cell? ⟨v9.heap.size, 1, none⟩ = some (.slice Fl il jl) ∧ w'.cell? ⟨v10.heap.size, 0, none⟩ = some (.bool (ngB M0)) ∧ w'.cell? ⟨v10.heap.size, 1, none⟩ = some (.slice Fm im jm))
      (first | (with_reducible exact ⟨x_le.drew.c0, x_le.drew.c1, x_mo.drew.c0, x_mo.drew.c1⟩) | (with_reducible exact ⟨(x_le.aside (by omega)).drew.c0, (x_le.aside (by omega)).drew.c1, (x_mo.aside (by omega)).drew.c0, (x_mo.aside (by omega)).drew.c1⟩) | (with_reducible exact ⟨((x_le.aside (by omega)).aside (by omega)).drew.c0, ((x_le.aside (by omega)).aside (by omega)).drew.c1, ((x_mo.aside (by omega)).aside (by omega)).drew.c0, ((x_mo.aside (by omega)).aside (by omega)).drew.c1⟩) | go_keep)
      (first | fail)
     skip
     replace x_b := x_b.aside (b' := (ngB L1)) (A' := Fl) (n' := il) (c' := jl) (g := w.heap.size + 1) (by omega)
     replace x_t := x_t.aside (b' := (ngB L1)) (A' := Fl) (n' := il) (c' := jl) (g := w.heap.size + 1) (by omega)
     replace x_by := x_by.aside (b' := (ngB L1)) (A' := Fl) (n' := il) (c' := jl) (g := w.heap.size + 1) (by omega)
     replace x_le := x_le.aside (b' := (ngB L1)) (A' := Fl) (n' := il) (c' := jl) (g := w.heap.size + 1) (by omega)
     replace x_mo := x_mo.aside (b' := (ngB L1)) (A' := Fl) (n' := il) (c' := jl) (g := w.heap.size + 1) (by omega)
     replace x_ha := x_ha.aside (b' := (ngB L1)) (A' := Fl) (n' := il) (c' := jl) (g := w.heap.size + 1) (by omega)
     replace x_od := x_od.aside (b' := (ngB L1)) (A' := Fl) (n' := il) (c' := jl) (g := w.heap.size + 1) (by omega)
     replace h := h.put (b' := (ngB L1)) (A' := Fl) (n' := il) (c' := jl) x_r
     replace h2 := h2.put (b' := (ngB L1)) (A' := Fl) (n' := il) (c' := jl) x_r
     replace z5 := z5.put (b' := (ngB L1)) (A' := Fl) (n' := il) (c' := jl) x_r
     replace yl := yl.put (b' := (ngB L1)) (A' := Fl) (n' := il) (c' := jl) x_r
     replace ym := ym.put (b' := (ngB L1)) (A' := Fl) (n' := il) (c' := jl) x_r
     replace z13 := z13.put (b' := (ngB L1)) (A' := Fl) (n' := il) (c' := jl) x_r
     replace z_od := z_od.put (b' := (ngB L1)) (A' := Fl) (n' := il) (c' := jl) x_r
     replace hb := put_below (g := w.heap.size + 1) hb (by omega) (.bool (ngB L1)) (.slice Fl il jl)
     replace x_r := x_r.put (ngB L1) Fl il jl
     clear q_b q_r q_t q_by q_le q_mo q_ha q_od
     generalize (v411.setCell ⟨w.heap.size + 1, 0, none⟩ (.bool (ngB L1))).setCell ⟨w.heap.size + 1, 1, none⟩ (.slice Fl il jl) = v412 at *
     have q_b := x_b.al
     have q_r := x_r.al
     have q_t := x_t.al
     have q_by := x_by.al
     have q_le := x_le.al
     have q_mo := x_mo.al
     have q_ha := x_ha.al
     have q_od := x_od.al
     replace x_b := x_b.aside (b' := (ngB M0)) (A' := Fm) (n' := im) (c' := jm) (g := w.heap.size + 1 + 1) (by omega)
     replace x_r := x_r.aside (b' := (ngB M0)) (A' := Fm) (n' := im) (c' := jm) (g := w.heap.size + 1 + 1) (by omega)
     replace x_by := x_by.aside (b' := (ngB M0)) (A' := Fm) (n' := im) (c' := jm) (g := w.heap.size + 1 + 1) (by omega)
     replace x_le := x_le.aside (b' := (ngB M0)) (A' := Fm) (n' := im) (c' := jm) (g := w.heap.size + 1 + 1) (by omega)
     replace x_mo := x_mo.aside (b' := (ngB M0)) (A' := Fm) (n' := im) (c' := jm) (g := w.heap.size + 1 + 1) (by omega)
     replace x_ha := x_ha.aside (b' := (ngB M0)) (A' := Fm) (n' := im) (c' := jm) (g := w.heap.size + 1 + 1) (by omega)
     replace x_od := x_od.aside (b' := (ngB M0)) (A' := Fm) (n' := im) (c' := jm) (g := w.heap.size + 1 + 1) (by omega)
     replace h := h.put (b' := (ngB M0)) (A' := Fm) (n' := im) (c' := jm) x_t
     replace h2 := h2.put (b' := (ngB M0)) (A' := Fm) (n' := im) (c' := jm) x_t
     replace z5 := z5.put (b' := (ngB M0)) (A' := Fm) (n' := im) (c' := jm) x_t
     replace yl := yl.put (b' := (ngB M0)) (A' := Fm) (n' := im) (c' := jm) x_t
     replace ym := ym.put (b' := (ngB M0)) (A' := Fm) (n' := im) (c' := jm) x_t
     replace z13 := z13.put (b' := (ngB M0)) (A' := Fm) (n' := im) (c' := jm) x_t
     replace z_od := z_od.put (b' := (ngB M0)) (A' := Fm) (n' := im) (c' := jm) x_t
     replace hb := put_below (g := w.heap.size + 1 + 1) hb (by omega) (.bool (ngB M0)) (.slice Fm im jm)
     replace x_t := x_t.put (ngB M0) Fm im jm
     clear q_b q_r q_t q_by q_le q_mo q_ha q_od
     generalize (v412.setCell ⟨w.heap.size + 1 + 1, 0, none⟩ (.bool (ngB M0))).setCell ⟨w.heap.size + 1 + 1, 1, none⟩ (.slice Fm im jm) = v413 at *
     have q_b := x_b.al
     have q_r := x_r.al
     have q_t := x_t.al
     have q_by := x_by.al
     have q_le := x_le.al
     have q_mo := x_mo.al
     have q_ha := x_ha.al
     have q_od := x_od.al
     replace x_b := x_b.drew
     replace x_r := x_r.drew
     replace x_t := x_t.drew
     replace x_by := x_by.drew
     replace x_le := x_le.drew
     replace x_mo := x_mo.drew
     replace x_ha := x_ha.drew
     replace x_od := x_od.drew
     replace h := h.drw
     replace h2 := h2.drw
     replace z5 := z5.drw
     replace yl := yl.drw
     replace ym := ym.drw
     replace z13 := z13.drw
     replace z_od := z_od.drw
     replace hb := below_drew hb
     clear q_b q_r q_t q_by q_le q_mo q_ha q_od
     generalize v413.drew = v414 at *
     have q_b := x_b.al
     have q_r := x_r.al
     have q_t := x_t.al
     have q_by := x_by.al
     have q_le := x_le.al
     have q_mo := x_mo.al
     have q_ha := x_ha.al
     have q_od := x_od.al
     go_wp2
     refine bodyPost_ret (v := .tuple #[.agg #[.bool (ngB L1), .slice Fl il jl], .agg #[.bool (ngB M0), .slice Fm im jm], .int .i64 0]) (by simp [results, Tryz.results11, go_sem, q_r, q_t]) rfl ?_
     rw [HN.out]
     exact ⟨_, _, _, _, _, _, rfl, yl.wide (by omega), ym.wide (by omega), hb⟩
end Go.Proofs.YtdonaominffpnaaGreatDoor
