/-
 point: the document's Gap, errors.
-/
import Derived.Test.YtdonaominffpnaaGreatDoorPscal
import Derived.Test.YtdonaominffpnaaGreatDoorPk
import Derived.Test.YtdonaominffpnaaGreatDoorLref0
namespace Go.Proofs.YtdonaominffpnaaGreatDoor
set_option maxRecDepth 100000
set_option maxHeartbeats 4000000
set_option linter.unusedVariables false
open Go.RowKit
variable {b b2 b3 b4 : Bool} {A A2 A3 A4 : Option Addr} {n c n2 c2 n3 c3 n4 c4 j j2 : Nat} {X Y U V q e : Int} {w : World}
theorem fieldL0 (b : Bool) (A : Option Addr) (n c : Nat) (b2 : Bool) (A2 : Option Addr) (n2 c2 : Nat) (q : Int) (w : World) : (Instr.field 26 (.agg #[.bool b, .slice A n c, .bool b2, .slice A2 n2 c2, .int .i64 q]) 0).run Tryz.prog w = .ok (.agg #[.bool b, .slice A n c]) w := by
 kernel_rfl
theorem RTo_any (h : Zr w b A n c X 40) {T : Int} (h2 : Zr w b2 A2 n2 c2 T 140) (hT : 0 < T) :
  Calls Tryz.prog 36 #[.agg #[.bool b, .slice A n c], .agg #[.bool b2, .slice A2 n2 c2]] w (OutZ w (dsI X T) 160) := by
 obtain ⟨R, hR⟩ : ∃ R, X % T = R := ⟨_, rfl⟩
 obtain ⟨Q, hQ⟩ : ∃ R, X / T = R := ⟨_, rfl⟩
 obtain ⟨O, hO⟩ : ∃ O, T - R = O := ⟨_, rfl⟩
 have HD : Hid (dsI X T = min R O) := Lib.hid (by rw [← hO, ← hR]; rfl)
 have HX : Hid (X / T = Q ∧ X % T = R ∧ T - R = O) := Lib.hid ⟨hQ, hR, hO⟩
 have hd : sgnI (O - R) < 0 ↔ O < R := by have := sgnI_lt0 (X := O - R); omega
 obtain ⟨C2, hC2⟩ : ∃ C, sgnI (O - R) = C := ⟨_, rfl⟩
 rw [hC2] at hd; have HC2 := Lib.hid hC2; clear hC2 hQ hR hO
 go_enter Tryz.func36, Tryz.ntmps36
 go_wp2_with fail
 refine al3c fun v1 hb x_x x_y x_r => ?_
 replace x_x := Bx.of x_x; replace x_y := Bx.of x_y; replace x_r := Bx.of x_r
 obtain ⟨h, h2⟩ := mv2 hb h h2
 have q_x := x_x.al
 have q_y := x_y.al
 have q_r := x_r.al
 clear q_r
 skip
 with_reducible refine (RDivModZ_any h h2 (by omega) 141 (by omega) (by omega) (by omega)).mono ?_
 rintro e v2 ⟨A5, n5, c5, A6, n6, c6, rfl, z5, z6, hb1⟩
 obtain ⟨x_x, x_y, x_r, h, h2, hb⟩ := mv6 hb1 x_x x_y x_r h h2 hb
 clear hb1
 replace q_x := x_x.al
 replace q_y := x_y.al
 rw [HX.out.1] at z5 ⊢; rw [HX.out.2.1] at z6 ⊢
 have y_x := (((x_x.alloc (.cells #[.bool (ngB Q), .slice A5 n5 c5] 24)).alloc (.cells #[.bool (ngB R), .slice A6 n6 c6] 24))).al
 have y_y := (((x_y.alloc (.cells #[.bool (ngB Q), .slice A5 n5 c5] 24)).alloc (.cells #[.bool (ngB R), .slice A6 n6 c6] 24))).al
 go_wp2_with fail
 clear y_x y_y
 have l_x_q := x_x.lt
 have l_y_q := x_y.lt
 have l_r_q := x_r.lt
 have e_q : w.heap.size ≤ v2.heap.size := hb.size
 clear q_x q_y
 refine al2c fun v3 hb1 x_q x_m => ?_
 replace x_q := Bx.of x_q; replace x_m := Bx.of x_m
 obtain ⟨x_x, x_y, x_r, h, h2, z5, z6, hb⟩ := mv8 hb1 x_x x_y x_r h h2 z5 z6 hb
 clear hb1
 have q_x := x_x.al
 have q_y := x_y.al
 have q_q := x_q.al
 have q_m := x_m.al
 skip
 with_reducible refine (RSubZ_any h2 z6.zr 150 (by omega) (by omega) (by omega)).mono ?_
 rintro e v4 ⟨A7, n7, c7, rfl, z7, hb1⟩
 obtain ⟨x_x, x_y, x_r, x_q, x_m, h, h2, z5, z6⟩ := mv9 hb1 x_x x_y x_r x_q x_m h h2 z5 z6
 replace hb := Mv.mv hb hb1
 clear hb1
 replace q_x := x_x.al
 replace q_y := x_y.al
 replace q_q := x_q.al
 replace q_m := x_m.al
 rw [HX.out.2.2] at z7 ⊢
 have y_x := ((x_x.alloc (.cells #[.bool (ngB O), .slice A7 n7 c7] 24))).al
 have y_y := ((x_y.alloc (.cells #[.bool (ngB O), .slice A7 n7 c7] 24))).al
 have y_q := ((x_q.alloc (.cells #[.bool (ngB O), .slice A7 n7 c7] 24))).al
 have y_m := ((x_m.alloc (.cells #[.bool (ngB O), .slice A7 n7 c7] 24))).al
 go_wp2_with fail
 clear y_x y_y y_q y_m
 have l_x_o := x_x.lt
 have l_y_o := x_y.lt
 have l_r_o := x_r.lt
 have l_q_o := x_q.lt
 have l_m_o := x_m.lt
 have e_o : w.heap.size ≤ v4.heap.size := hb.size
 clear q_x q_y q_q q_m
 refine al1c fun v5 hb1 x_o => ?_
 replace x_o := Bx.of x_o
 obtain ⟨x_x, x_y, x_r, x_q, x_m, h, h2, z5, z6⟩ := mv9 hb1 x_x x_y x_r x_q x_m h h2 z5 z6
 obtain ⟨z7, hb⟩ := mv2 hb1 z7 hb
 clear hb1
 have q_x := x_x.al
 have q_y := x_y.al
 have q_q := x_q.al
 have q_m := x_m.al
 have q_o := x_o.al
 skip
 with_reducible refine (RCmpZ_any z7.zr z6.zr 160 (by omega) (by omega) (by omega)).mono ?_
 rintro e v6 ⟨rfl, hb1⟩
 obtain ⟨x_x, x_y, x_r, x_q, x_m, x_o, h, h2, z5⟩ := mv9 hb1 x_x x_y x_r x_q x_m x_o h h2 z5
 obtain ⟨z6, z7, hb⟩ := mv3 hb1 z6 z7 hb
 clear hb1
 replace q_x := x_x.al
 replace q_y := x_y.al
 replace q_q := x_q.al
 replace q_m := x_m.al
 replace q_o := x_o.al
 rw [HC2.out]
 by_cases hC2 : C2 < 0
 ·have HN0 : Hid (dsI X T = O) := Lib.hid (by rw [HD.out]; omega)
  clear hd
  have q_r := x_r.al
  go_wp2
  clear q_x q_y q_r q_q q_m q_o
  refine x_r.st fun v7 hs hx => ?_
  obtain ⟨x_x, x_y, x_q, x_m, x_o, h, h2, z5, z6⟩ := ms9 hs ⟨by omega, by omega, by omega, by omega, by omega, trivial, trivial, trivial, trivial⟩ x_x x_y x_q x_m x_o h h2 z5 z6
  obtain ⟨z7, hb⟩ := ms2 hs ⟨trivial, by omega⟩ z7 hb
  replace x_r := hx; clear hx hs
  have q_x := x_x.al
  have q_y := x_y.al
  have q_r := x_r.al
  have q_q := x_q.al
  have q_m := x_m.al
  have q_o := x_o.al
  skip
  refine bodyPost_ret (v := .agg #[.bool (ngB O), .slice A7 n7 c7]) (by simp [results, Tryz.results36, go_sem, q_r]) rfl ?_
  exact ⟨_, _, _, by rw [HN0.out], by rw [HN0.out]; exact z7.wide (by omega), hb⟩
 ·have HN0 : Hid (dsI X T = R) := Lib.hid (by rw [HD.out]; omega)
  clear hd
  have q_r := x_r.al
  go_wp2
  clear q_x q_y q_r q_q q_m q_o
  refine x_r.st fun v7 hs hx => ?_
  obtain ⟨x_x, x_y, x_q, x_m, x_o, h, h2, z5, z6⟩ := ms9 hs ⟨by omega, by omega, by omega, by omega, by omega, trivial, trivial, trivial, trivial⟩ x_x x_y x_q x_m x_o h h2 z5 z6
  obtain ⟨z7, hb⟩ := ms2 hs ⟨trivial, by omega⟩ z7 hb
  replace x_r := hx; clear hx hs
  have q_x := x_x.al
  have q_y := x_y.al
  have q_r := x_r.al
  have q_q := x_q.al
  have q_m := x_m.al
  have q_o := x_o.al
  skip
  refine bodyPost_ret (v := .agg #[.bool (ngB R), .slice A6 n6 c6]) (by simp [results, Tryz.results36, go_sem, q_r]) rfl ?_
  exact ⟨_, _, _, by rw [HN0.out], by rw [HN0.out]; exact z6.wide (by omega), hb⟩
def psI (X Y : Int) : Int := if Y < 0 then -Y else X
def psJ (X Y : Int) : Int := if Y < 0 then -X else Y
theorem RPlus_any (h : Zr w b A n c X 8) (h2 : Zr w b2 A2 n2 c2 Y 8) :
  Calls Tryz.prog 47 #[.agg #[.bool b, .slice A n c, .bool b2, .slice A2 n2 c2, .int .i64 q]] w (fun e w' => ∃ d1 F1 i1 j1 d2 F2 i2 j2, e = .returned (.agg #[.bool d1, .slice F1 i1 j1, .bool d2, .slice F2 i2 j2, .int .i64 q]) ∧ Zr w' d1 F1 i1 j1 (psI X Y) 8 ∧ Zr w' d2 F2 i2 j2 (psJ X Y) 8 ∧ Below w.heap.size w w') := by
 have hd := sgnI_lt0 (X := Y)
 obtain ⟨C, hC⟩ : ∃ C, sgnI Y = C := ⟨_, rfl⟩
 rw [hC] at hd; have HC := Lib.hid hC; clear hC
 go_enter Tryz.func47, Tryz.ntmps47
 go_wp2_with fail
 refine al2c fun v1 hb x_b x_r => ?_
 replace x_b := Lx.of x_b; replace x_r := Lx.of x_r
 obtain ⟨h, h2⟩ := mv2 hb h h2
 have q_b := x_b.al
 have q_r := x_r.al
 clear q_r
 skip
 with_reducible refine (RSignZ_any h2 (by omega)).mono ?_
 rintro e v2 ⟨rfl, hb1⟩
 obtain ⟨x_b, x_r, h, h2, hb⟩ := mv5 hb1 x_b x_r h h2 hb
 clear hb1
 replace q_b := x_b.al
 rw [HC.out]
 by_cases hC : C < 0
 ·have HN0 : Hid (psI X Y = -Y ∧ psJ X Y = -X) := Lib.hid (by unfold psI psJ; rw [if_pos (hd.1 hC), if_pos (hd.1 hC)]; exact ⟨rfl, rfl⟩)
  clear hd
  have q_r := x_r.al
  go_wp2_with fail
  go_region_held3 (fun w' => w'.cell? ⟨w.heap.size, 0, none⟩ = some (.bool b) ∧ w'.cell? ⟨w.heap.size, 1, none⟩ = some (.slice A n c) ∧ w'.cell? ⟨w.heap.size, 2, none⟩ = some (.bool b2) ∧ w'.cell? ⟨w.heap.size, 3, none⟩ = some (.slice A2 n2 c2) ∧ w'.cell? ⟨w.heap.size, 4, none⟩ = some (.int .i64 q))
   (first | (with_reducible exact ⟨x_b.c0, x_b.c1, x_b.c2, x_b.c3, x_b.c4⟩) | (with_reducible exact ⟨(x_b.aside (by omega)).c0, (x_b.aside (by omega)).c1, (x_b.aside (by omega)).c2, (x_b.aside (by omega)).c3, (x_b.aside (by omega)).c4⟩) | (with_reducible exact ⟨((x_b.aside (by omega)).aside (by omega)).c0, ((x_b.aside (by omega)).aside (by omega)).c1, ((x_b.aside (by omega)).aside (by omega)).c2, ((x_b.aside (by omega)).aside (by omega)).c3, ((x_b.aside (by omega)).aside (by omega)).c4⟩) | (with_reducible exact ⟨(x_b.asideD (by omega)).c0, (x_b.asideD (by omega)).c1, (x_b.asideD (by omega)).c2, (x_b.asideD (by omega)).c3, (x_b.asideD (by omega)).c4⟩) | (with_reducible exact ⟨((x_b.asideD (by omega)).asideD (by omega)).c0, ((x_b.asideD (by omega)).asideD (by omega)).c1, ((x_b.asideD (by omega)).asideD (by omega)).c2, ((x_b.asideD (by omega)).asideD (by omega)).c3, ((x_b.asideD (by omega)).asideD (by omega)).c4⟩) | (with_reducible exact ⟨(x_b.asideL (by omega)).c0, (x_b.asideL (by omega)).c1, (x_b.asideL (by omega)).c2, (x_b.asideL (by omega)).c3, (x_b.asideL (by omega)).c4⟩) | (with_reducible exact ⟨((x_b.asideL (by omega)).asideL (by omega)).c0, ((x_b.asideL (by omega)).asideL (by omega)).c1, ((x_b.asideL (by omega)).asideL (by omega)).c2, ((x_b.asideL (by omega)).asideL (by omega)).c3, ((x_b.asideL (by omega)).asideL (by omega)).c4⟩) | go_keep)
   (first | (go_at_call 75; (with_reducible refine (RNegZ_any h2.drw 8 (by omega) (by omega)).mono ?_); rintro e v3 ⟨A5, n5, c5, rfl, z5, hb1⟩; replace hb1 := undrew hb1; obtain ⟨x_b, x_r, h, h2, hb⟩ := mv5 hb1 x_b x_r h h2 hb; clear hb1; replace q_b := x_b.al; replace q_r := x_r.al) | (go_at_call 75; (with_reducible refine (RNegZ_any h 8 (by omega) (by omega)).mono ?_); rintro e v4 ⟨A6, n6, c6, rfl, z6, hb1⟩; obtain ⟨x_b, x_r, h, h2, z5, hb⟩ := mv6 hb1 x_b x_r h h2 z5 hb; clear hb1; replace q_b := x_b.al; replace q_r := x_r.al))
  go_wp2
  clear q_b q_r
  refine x_r.st fun v5 hs hx => ?_
  obtain ⟨x_b, h, h2, z5, z6, hb⟩ := ms6 hs ⟨by omega, trivial, trivial, trivial, trivial, by omega⟩ x_b h h2 z5 z6 hb
  replace x_r := hx; clear hx hs
  have q_b := x_b.al
  have q_r := x_r.al
  skip
  refine bodyPost_ret (v := .agg #[.bool (ngB (-Y)), .slice A5 n5 c5, .bool (ngB (-X)), .slice A6 n6 c6, .int .i64 q]) (by simp [results, Tryz.results47, go_sem, q_r]) rfl ?_
  exact ⟨_, _, _, _, _, _, _, _, rfl, by rw [HN0.out.1]; exact z5.zr, by rw [HN0.out.2]; exact z6.zr, hb⟩
 ·have HN0 : Hid (psI X Y = X ∧ psJ X Y = Y) := Lib.hid (by unfold psI psJ; rw [if_neg (fun k => hC (hd.2 k)), if_neg (fun k => hC (hd.2 k))]; exact ⟨rfl, rfl⟩)
  clear hd
  have q_r := x_r.al
  go_wp2
  clear q_b q_r
  refine x_r.st fun v3 hs hx => ?_
  obtain ⟨x_b, h, h2, hb⟩ := ms4 hs ⟨by omega, trivial, trivial, by omega⟩ x_b h h2 hb
  replace x_r := hx; clear hx hs
  have q_b := x_b.al
  have q_r := x_r.al
  skip
  refine bodyPost_ret (v := .agg #[.bool b, .slice A n c, .bool b2, .slice A2 n2 c2, .int .i64 q]) (by simp [results, Tryz.results47, go_sem, q_r]) rfl ?_
  exact ⟨_, _, _, _, _, _, _, _, rfl, by rw [HN0.out.1]; exact h, by rw [HN0.out.2]; exact h2, hb⟩
theorem RScale_some (h : Zr w b A n c X 8) (h2 : Zr w b2 A2 n2 c2 Y 8) (hv : 0 ≤ q ∧ q ≤ 2048 ∧ X ≤ Y) (hz : zrB X Y = false) (K : Int) (hK : bl (nrI X Y).natAbs - 1 - q = K) :
  Calls Tryz.prog 14 #[.agg #[.bool b, .slice A n c, .bool b2, .slice A2 n2 c2, .int .i64 q]] w (fun e w' => e = .returned (.tuple #[.int .i64 K, .bool true]) ∧ Below w.heap.size w w') := by
 have HR := Lib.hid (rB_yes hv)
 have HNR : Hid (bl (psI X Y).natAbs = bl (nrI X Y).natAbs) := Lib.hid (by unfold zrB at hz; simp only [decide_eq_false_iff_not] at hz; unfold psI nrI; split <;> split <;> first | omega | rfl | rw [Int.natAbs_neg])
 have hb9 : (bl (nrI X Y).natAbs : Int) ≤ 64 * 8 := by have a := bl_le (Bt.of_si h.si); have b := bl_le (Bt.of_si h2.si); unfold nrI; split <;> omega
 have hz1 : 0 < X ∨ Y < 0 := by unfold zrB at hz; simp only [decide_eq_false_iff_not] at hz; omega
 have hq : 0 ≤ q ∧ q ≤ 2048 := by omega
 obtain ⟨β, hβ⟩ : ∃ C, bl (nrI X Y).natAbs = C := ⟨_, rfl⟩
 rw [hβ] at hK hb9 HNR; clear hβ
 have w1 : IntKind.i64.wrap ((β : Int) - 1) = (β : Int) - 1 := wrap_in (by omega) (by omega)
 have w2 : IntKind.i64.wrap ((β : Int) - 1 - q) = K := by rw [wrap_in (by omega) (by omega)]; exact hK
 clear hK hz
 have d1 : sgnI X ≤ 0 ↔ X ≤ 0 := by have := sgn_le (X := X) (Y := 0); rw [Int.sub_zero] at this; exact this
 have d2 : 0 ≤ sgnI Y ↔ 0 ≤ Y := by have := sgnI_lt0 (X := Y); omega
 obtain ⟨C1, hC1⟩ : ∃ C, sgnI X = C := ⟨_, rfl⟩
 rw [hC1] at d1; have HC1 := Lib.hid hC1; clear hC1
 obtain ⟨C2, hC2⟩ : ∃ C, sgnI Y = C := ⟨_, rfl⟩
 rw [hC2] at d2; have HC2 := Lib.hid hC2; clear hC2
 have HPL := Lib.hid (fun w (h : Zr w b A n c X 8) (h2 : Zr w b2 A2 n2 c2 Y 8) => RPlus_any (q := q) h h2)
 rcases (show ¬ C1 ≤ 0 ∨ (C1 ≤ 0 ∧ ¬ 0 ≤ C2) by omega) with hs | ⟨hs, hs2⟩
 ·clear d1 d2 hv hz1
  go_enter Tryz.func14, Tryz.ntmps14
  go_wp2_with fail
  refine al1c fun v1 hb x_b => ?_
  replace x_b := Lx.of x_b
  obtain ⟨h, h2⟩ := mv2 hb h h2
  have q_b := x_b.al
  skip
  with_reducible refine (RRight_any h h2 (by omega) (by omega)).mono ?_
  rintro e v2 ⟨rfl, hb1⟩
  obtain ⟨x_b, h, h2, hb⟩ := mv4 hb1 x_b h h2 hb
  clear hb1
  replace q_b := x_b.al
  rw [HR.out]
  go_wp2_with fail
  with_reducible refine (RSignZ_any h (by omega)).mono ?_
  rintro e v3 ⟨rfl, hb1⟩
  obtain ⟨x_b, h, h2, hb⟩ := mv4 hb1 x_b h h2 hb
  clear hb1
  replace q_b := x_b.al
  rw [HC1.out]
  go_wp2_with fail
  go_region_held3 (fun w' => w'.cell? ⟨w.heap.size, 0, none⟩ = some (.bool b) ∧ w'.cell? ⟨w.heap.size, 1, none⟩ = some (.slice A n c) ∧ w'.cell? ⟨w.heap.size, 2, none⟩ = some (.bool b2) ∧ w'.cell? ⟨w.heap.size, 3, none⟩ = some (.slice A2 n2 c2) ∧ w'.cell? ⟨w.heap.size, 4, none⟩ = some (.int .i64 q))
   (first | (with_reducible exact ⟨x_b.c0, x_b.c1, x_b.c2, x_b.c3, x_b.c4⟩) | (with_reducible exact ⟨(x_b.aside (by omega)).c0, (x_b.aside (by omega)).c1, (x_b.aside (by omega)).c2, (x_b.aside (by omega)).c3, (x_b.aside (by omega)).c4⟩) | (with_reducible exact ⟨((x_b.aside (by omega)).aside (by omega)).c0, ((x_b.aside (by omega)).aside (by omega)).c1, ((x_b.aside (by omega)).aside (by omega)).c2, ((x_b.aside (by omega)).aside (by omega)).c3, ((x_b.aside (by omega)).aside (by omega)).c4⟩) | (with_reducible exact ⟨(x_b.asideD (by omega)).c0, (x_b.asideD (by omega)).c1, (x_b.asideD (by omega)).c2, (x_b.asideD (by omega)).c3, (x_b.asideD (by omega)).c4⟩) | (with_reducible exact ⟨((x_b.asideD (by omega)).asideD (by omega)).c0, ((x_b.asideD (by omega)).asideD (by omega)).c1, ((x_b.asideD (by omega)).asideD (by omega)).c2, ((x_b.asideD (by omega)).asideD (by omega)).c3, ((x_b.asideD (by omega)).asideD (by omega)).c4⟩) | (with_reducible exact ⟨(x_b.asideL (by omega)).c0, (x_b.asideL (by omega)).c1, (x_b.asideL (by omega)).c2, (x_b.asideL (by omega)).c3, (x_b.asideL (by omega)).c4⟩) | (with_reducible exact ⟨((x_b.asideL (by omega)).asideL (by omega)).c0, ((x_b.asideL (by omega)).asideL (by omega)).c1, ((x_b.asideL (by omega)).asideL (by omega)).c2, ((x_b.asideL (by omega)).asideL (by omega)).c3, ((x_b.asideL (by omega)).asideL (by omega)).c4⟩) | go_keep)
   (first | (go_at_call 47; (with_reducible refine (HPL.out _ h.drw h2.drw).mono ?_); rintro e v4 ⟨d1, F1, i1, j1, d2, F2, i2, j2, rfl, y1, y2, hb1⟩; replace hb1 := undrew hb1; obtain ⟨x_b, h, h2, hb⟩ := mv4 hb1 x_b h h2 hb; clear hb1; replace q_b := x_b.al; have hfl := fun w => fieldL0 d1 F1 i1 j1 d2 F2 i2 j2 q w) | (go_at_call 46; (with_reducible refine (RBitLenZ_any y1 (by omega)).mono ?_); rintro e v5 ⟨rfl, hb1⟩; obtain ⟨x_b, h, h2, y1, y2, hb⟩ := mv6 hb1 x_b h h2 y1 y2 hb; clear hb1; replace q_b := x_b.al; rw [HNR.out]))
  go_wp2
  refine bodyPost_ret (v := .tuple #[.int .i64 K, .bool true]) (by simp [results, Tryz.results14, go_sem]) rfl ?_
  exact ⟨rfl, hb⟩
 ·clear d1 d2 hv hz1
  go_enter Tryz.func14, Tryz.ntmps14
  go_wp2_with fail
  refine al1c fun v1 hb x_b => ?_
  replace x_b := Lx.of x_b
  obtain ⟨h, h2⟩ := mv2 hb h h2
  have q_b := x_b.al
  skip
  with_reducible refine (RRight_any h h2 (by omega) (by omega)).mono ?_
  rintro e v2 ⟨rfl, hb1⟩
  obtain ⟨x_b, h, h2, hb⟩ := mv4 hb1 x_b h h2 hb
  clear hb1
  replace q_b := x_b.al
  rw [HR.out]
  go_wp2_with fail
  with_reducible refine (RSignZ_any h (by omega)).mono ?_
  rintro e v3 ⟨rfl, hb1⟩
  obtain ⟨x_b, h, h2, hb⟩ := mv4 hb1 x_b h h2 hb
  clear hb1
  replace q_b := x_b.al
  rw [HC1.out]
  go_wp2_with fail
  with_reducible refine (RSignZ_any h2 (by omega)).mono ?_
  rintro e v4 ⟨rfl, hb1⟩
  obtain ⟨x_b, h, h2, hb⟩ := mv4 hb1 x_b h h2 hb
  clear hb1
  replace q_b := x_b.al
  rw [HC2.out]
  go_wp2_with fail
  go_region_held3 (fun w' => w'.cell? ⟨w.heap.size, 0, none⟩ = some (.bool b) ∧ w'.cell? ⟨w.heap.size, 1, none⟩ = some (.slice A n c) ∧ w'.cell? ⟨w.heap.size, 2, none⟩ = some (.bool b2) ∧ w'.cell? ⟨w.heap.size, 3, none⟩ = some (.slice A2 n2 c2) ∧ w'.cell? ⟨w.heap.size, 4, none⟩ = some (.int .i64 q))
   (first | (with_reducible exact ⟨x_b.c0, x_b.c1, x_b.c2, x_b.c3, x_b.c4⟩) | (with_reducible exact ⟨(x_b.aside (by omega)).c0, (x_b.aside (by omega)).c1, (x_b.aside (by omega)).c2, (x_b.aside (by omega)).c3, (x_b.aside (by omega)).c4⟩) | (with_reducible exact ⟨((x_b.aside (by omega)).aside (by omega)).c0, ((x_b.aside (by omega)).aside (by omega)).c1, ((x_b.aside (by omega)).aside (by omega)).c2, ((x_b.aside (by omega)).aside (by omega)).c3, ((x_b.aside (by omega)).aside (by omega)).c4⟩) | (with_reducible exact ⟨(x_b.asideD (by omega)).c0, (x_b.asideD (by omega)).c1, (x_b.asideD (by omega)).c2, (x_b.asideD (by omega)).c3, (x_b.asideD (by omega)).c4⟩) | (with_reducible exact ⟨((x_b.asideD (by omega)).asideD (by omega)).c0, ((x_b.asideD (by omega)).asideD (by omega)).c1, ((x_b.asideD (by omega)).asideD (by omega)).c2, ((x_b.asideD (by omega)).asideD (by omega)).c3, ((x_b.asideD (by omega)).asideD (by omega)).c4⟩) | (with_reducible exact ⟨(x_b.asideL (by omega)).c0, (x_b.asideL (by omega)).c1, (x_b.asideL (by omega)).c2, (x_b.asideL (by omega)).c3, (x_b.asideL (by omega)).c4⟩) | (with_reducible exact ⟨((x_b.asideL (by omega)).asideL (by omega)).c0, ((x_b.asideL (by omega)).asideL (by omega)).c1, ((x_b.asideL (by omega)).asideL (by omega)).c2, ((x_b.asideL (by omega)).asideL (by omega)).c3, ((x_b.asideL (by omega)).asideL (by omega)).c4⟩) | go_keep)
   (first | (go_at_call 47; (with_reducible refine (HPL.out _ h.drw h2.drw).mono ?_); rintro e v5 ⟨d1, F1, i1, j1, d2, F2, i2, j2, rfl, y1, y2, hb1⟩; replace hb1 := undrew hb1; obtain ⟨x_b, h, h2, hb⟩ := mv4 hb1 x_b h h2 hb; clear hb1; replace q_b := x_b.al; have hfl := fun w => fieldL0 d1 F1 i1 j1 d2 F2 i2 j2 q w) | (go_at_call 46; (with_reducible refine (RBitLenZ_any y1 (by omega)).mono ?_); rintro e v6 ⟨rfl, hb1⟩; obtain ⟨x_b, h, h2, y1, y2, hb⟩ := mv6 hb1 x_b h h2 y1 y2 hb; clear hb1; replace q_b := x_b.al; rw [HNR.out]))
  go_wp2
  refine bodyPost_ret (v := .tuple #[.int .i64 K, .bool true]) (by simp [results, Tryz.results14, go_sem]) rfl ?_
  exact ⟨rfl, hb⟩
theorem RScale_none (h : Zr w b A n c X 8) (h2 : Zr w b2 A2 n2 c2 Y 8) (hz : ¬ (0 ≤ q ∧ q ≤ 2048 ∧ X ≤ Y) ∨ zrB X Y = true) :
  Calls Tryz.prog 14 #[.agg #[.bool b, .slice A n c, .bool b2, .slice A2 n2 c2, .int .i64 q]] w (fun e w' => e = .returned (.tuple #[.int .i64 0, .bool false]) ∧ Below w.heap.size w w') := by
 rcases (show ¬ (0 ≤ q ∧ q ≤ 2048 ∧ X ≤ Y) ∨ ((0 ≤ q ∧ q ≤ 2048 ∧ X ≤ Y) ∧ zrB X Y = true) by rcases hz with a | a; exact Or.inl a; by_cases k : 0 ≤ q ∧ q ≤ 2048 ∧ X ≤ Y; exact Or.inr ⟨k, a⟩; exact Or.inl k) with hr | ⟨hr, hz⟩
 ·have HR := Lib.hid (rB_no hr); clear hr hz
  go_enter Tryz.func14, Tryz.ntmps14
  go_wp2_with fail
  refine al1c fun v1 hb x_b => ?_
  replace x_b := Lx.of x_b
  obtain ⟨h, h2⟩ := mv2 hb h h2
  have q_b := x_b.al
  skip
  with_reducible refine (RRight_any h h2 (by omega) (by omega)).mono ?_
  rintro e v2 ⟨rfl, hb1⟩
  obtain ⟨x_b, h, h2, hb⟩ := mv4 hb1 x_b h h2 hb
  clear hb1
  replace q_b := x_b.al
  rw [HR.out]
  go_wp2
  refine bodyPost_ret (v := .tuple #[.int .i64 0, .bool false]) (by simp [results, Tryz.results14, go_sem]) rfl ?_
  exact ⟨rfl, hb⟩
 ·have HR := Lib.hid (rB_yes hr)
  have hz1 : X ≤ 0 ∧ 0 ≤ Y := by unfold zrB at hz; simpa using hz
  have d1 : sgnI X ≤ 0 := by have := sgn_le (X := X) (Y := 0); rw [Int.sub_zero] at this; exact this.2 hz1.1
  have d2 : 0 ≤ sgnI Y := by have := mt (sgnI_lt0 (X := Y)).1 (by omega); omega
  obtain ⟨C1, hC1⟩ : ∃ C, sgnI X = C := ⟨_, rfl⟩
  rw [hC1] at d1; have HC1 := Lib.hid hC1; clear hC1
  obtain ⟨C2, hC2⟩ : ∃ C, sgnI Y = C := ⟨_, rfl⟩
  rw [hC2] at d2; have HC2 := Lib.hid hC2; clear hC2 hz hz1 hr
  go_enter Tryz.func14, Tryz.ntmps14
  go_wp2_with fail
  refine al1c fun v1 hb x_b => ?_
  replace x_b := Lx.of x_b
  obtain ⟨h, h2⟩ := mv2 hb h h2
  have q_b := x_b.al
  skip
  with_reducible refine (RRight_any h h2 (by omega) (by omega)).mono ?_
  rintro e v2 ⟨rfl, hb1⟩
  obtain ⟨x_b, h, h2, hb⟩ := mv4 hb1 x_b h h2 hb
  clear hb1
  replace q_b := x_b.al
  rw [HR.out]
  go_wp2_with fail
  with_reducible refine (RSignZ_any h (by omega)).mono ?_
  rintro e v3 ⟨rfl, hb1⟩
  obtain ⟨x_b, h, h2, hb⟩ := mv4 hb1 x_b h h2 hb
  clear hb1
  replace q_b := x_b.al
  rw [HC1.out]
  go_wp2_with fail
  with_reducible refine (RSignZ_any h2 (by omega)).mono ?_
  rintro e v4 ⟨rfl, hb1⟩
  obtain ⟨x_b, h, h2, hb⟩ := mv4 hb1 x_b h h2 hb
  clear hb1
  replace q_b := x_b.al
  rw [HC2.out]
  go_wp2
  refine bodyPost_ret (v := .tuple #[.int .i64 0, .bool false]) (by simp [results, Tryz.results14, go_sem]) rfl ?_
  exact ⟨rfl, hb⟩
end Go.Proofs.YtdonaominffpnaaGreatDoor
namespace Go.Proofs.YtdonaominffpnaaGreatDoor
set_option maxRecDepth 100000
set_option maxHeartbeats 4000000
set_option linter.unusedVariables false
open Go.RowKit
variable {b b2 b3 b4 : Bool} {A A2 A3 A4 : Option Addr} {n c n2 c2 n3 c3 n4 c4 j j2 : Nat} {X Y U V q e : Int} {w : World}
theorem RGap_no (h : Zr w b A n c X 8) (h2 : Zr w b2 A2 n2 c2 Y 8) (s : Int) (hv : ¬ ((0 ≤ q ∧ q ≤ 2048 ∧ X ≤ Y) ∧ 0 ≤ s ∧ s ≤ 2048)) :
  Calls Tryz.prog 11 #[.agg #[.bool b, .slice A n c, .bool b2, .slice A2 n2 c2, .int .i64 q], .int .i64 s] w (fun e w' => e = .returned (.tuple #[.agg #[.bool false, .slice none 0 0], .agg #[.bool false, .slice none 0 0], .int .i64 1]) ∧ Below w.heap.size w w') := by
 rcases (show ¬ (0 ≤ q ∧ q ≤ 2048 ∧ X ≤ Y) ∨ ((0 ≤ q ∧ q ≤ 2048 ∧ X ≤ Y) ∧ s < 0) ∨ ((0 ≤ q ∧ q ≤ 2048 ∧ X ≤ Y) ∧ ¬ s < 0 ∧ 2048 < s) by omega) with hr | ⟨hr, h0⟩ | ⟨hr, h0, h1⟩
 ·have HR := Lib.hid (rB_no hr); clear hr hv
  go_enter Tryz.func11, Tryz.ntmps11
  go_wp2_with fail
  refine al3c fun v1 hb x_b x_r x_t => ?_
  replace x_b := Lx.of x_b; replace x_r := Bx.of x_r; replace x_t := Bx.of x_t
  obtain ⟨h, h2⟩ := mv2 hb h h2
  have q_b := x_b.al
  have q_r := x_r.al
  have q_t := x_t.al
  skip
  with_reducible refine (RRight_any h h2 (by omega) (by omega)).mono ?_
  rintro e v2 ⟨rfl, hb1⟩
  obtain ⟨x_b, x_r, x_t, h, h2, hb⟩ := mv6 hb1 x_b x_r x_t h h2 hb
  clear hb1
  replace q_b := x_b.al
  replace q_r := x_r.al
  replace q_t := x_t.al
  rw [HR.out]
  go_wp2
  clear q_b q_r q_t
  refine x_r.st2 x_t (by omega) fun _ v3 hs hs2 hx hy => ?_
  obtain ⟨x_b, h, h2, hb⟩ := ms4 hs ⟨by omega, trivial, trivial, by omega⟩ x_b h h2 hb
  obtain ⟨x_b, h, h2, hb⟩ := ms4 hs2 ⟨by omega, trivial, trivial, by omega⟩ x_b h h2 hb
  replace x_r := hx; replace x_t := hy; clear hx hy hs hs2
  have q_b := x_b.al
  have q_r := x_r.al
  have q_t := x_t.al
  skip
  refine bodyPost_ret (v := .tuple #[.agg #[.bool false, .slice none 0 0], .agg #[.bool false, .slice none 0 0], .int .i64 1]) (by simp [results, Tryz.results11, go_sem, q_r, q_t]) rfl ?_
  exact ⟨rfl, hb⟩
 ·have HR := Lib.hid (rB_yes hr); clear hr hv
  go_enter Tryz.func11, Tryz.ntmps11
  go_wp2_with fail
  refine al3c fun v1 hb x_b x_r x_t => ?_
  replace x_b := Lx.of x_b; replace x_r := Bx.of x_r; replace x_t := Bx.of x_t
  obtain ⟨h, h2⟩ := mv2 hb h h2
  have q_b := x_b.al
  have q_r := x_r.al
  have q_t := x_t.al
  skip
  with_reducible refine (RRight_any h h2 (by omega) (by omega)).mono ?_
  rintro e v2 ⟨rfl, hb1⟩
  obtain ⟨x_b, x_r, x_t, h, h2, hb⟩ := mv6 hb1 x_b x_r x_t h h2 hb
  clear hb1
  replace q_b := x_b.al
  replace q_r := x_r.al
  replace q_t := x_t.al
  rw [HR.out]
  go_wp2
  clear q_b q_r q_t
  refine x_r.st2 x_t (by omega) fun _ v3 hs hs2 hx hy => ?_
  obtain ⟨x_b, h, h2, hb⟩ := ms4 hs ⟨by omega, trivial, trivial, by omega⟩ x_b h h2 hb
  obtain ⟨x_b, h, h2, hb⟩ := ms4 hs2 ⟨by omega, trivial, trivial, by omega⟩ x_b h h2 hb
  replace x_r := hx; replace x_t := hy; clear hx hy hs hs2
  have q_b := x_b.al
  have q_r := x_r.al
  have q_t := x_t.al
  skip
  refine bodyPost_ret (v := .tuple #[.agg #[.bool false, .slice none 0 0], .agg #[.bool false, .slice none 0 0], .int .i64 1]) (by simp [results, Tryz.results11, go_sem, q_r, q_t]) rfl ?_
  exact ⟨rfl, hb⟩
 ·have HR := Lib.hid (rB_yes hr); clear hr hv
  go_enter Tryz.func11, Tryz.ntmps11
  go_wp2_with fail
  refine al3c fun v1 hb x_b x_r x_t => ?_
  replace x_b := Lx.of x_b; replace x_r := Bx.of x_r; replace x_t := Bx.of x_t
  obtain ⟨h, h2⟩ := mv2 hb h h2
  have q_b := x_b.al
  have q_r := x_r.al
  have q_t := x_t.al
  skip
  with_reducible refine (RRight_any h h2 (by omega) (by omega)).mono ?_
  rintro e v2 ⟨rfl, hb1⟩
  obtain ⟨x_b, x_r, x_t, h, h2, hb⟩ := mv6 hb1 x_b x_r x_t h h2 hb
  clear hb1
  replace q_b := x_b.al
  replace q_r := x_r.al
  replace q_t := x_t.al
  rw [HR.out]
  go_wp2
  clear q_b q_r q_t
  refine x_r.st2 x_t (by omega) fun _ v3 hs hs2 hx hy => ?_
  obtain ⟨x_b, h, h2, hb⟩ := ms4 hs ⟨by omega, trivial, trivial, by omega⟩ x_b h h2 hb
  obtain ⟨x_b, h, h2, hb⟩ := ms4 hs2 ⟨by omega, trivial, trivial, by omega⟩ x_b h h2 hb
  replace x_r := hx; replace x_t := hy; clear hx hy hs hs2
  have q_b := x_b.al
  have q_r := x_r.al
  have q_t := x_t.al
  skip
  refine bodyPost_ret (v := .tuple #[.agg #[.bool false, .slice none 0 0], .agg #[.bool false, .slice none 0 0], .int .i64 1]) (by simp [results, Tryz.results11, go_sem, q_r, q_t]) rfl ?_
  exact ⟨rfl, hb⟩
end Go.Proofs.YtdonaominffpnaaGreatDoor
