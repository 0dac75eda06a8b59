/-
 The law ElemBack, as a call.
-/
import Derived.Test.YtjlbngjeekdfcaaGreatDoorEshow
import Derived.Test.YtjlbngjeekdfcaaGreatDoorEval
import Derived.Test.YtjlbngjeekdfcaaGreatDoorLmeets
import Derived.Test.YtjlbngjeekdfcaaGreatDoorElemCircle
import Derived.Deep.DeepCutAuto
namespace Go.Proofs.YtjlbngjeekdfcaaGreatDoor
set_option maxRecDepth 100000
set_option maxHeartbeats 64000000
set_option linter.unusedVariables false
open Go.RowKit
open MX (bLo bHi tA tZ xK xR xS yR yS uR uS gR gS hR hS wK wR wS vJ vKi vN vLo vHi nq Hd)
theorem of_ok {P : Int} {q : Nat} (hq : q ≤ 127) (h : -(64 * twP q) ≤ P ∧ P ≤ 64 * twP q) : Ar (od (cM P (-(q : Int)))) (nE (cM P (-(q : Int))) (cE (-(q : Int)))) ∧ nq (od (cM P (-(q : Int)))) (nE (cM P (-(q : Int))) (cE (-(q : Int)))) = nq P (-(q : Int)) ∧ Si (od (cM P (-(q : Int)))) 8 ∧ Si P 8 := by
 obtain ⟨c1, c2⟩ := c_yes (X := P) (e := -(q : Int)) (by omega)
 rw [c1, c2]
 have p := tw_pos q
 have s : Si P 8 := sw_si (w := q) (by omega) (by omega) (by omega)
 have s2 : Si (od P) 8 := Nat.lt_of_le_of_lt (od_abs P) s
 have a1 : nq P (-(q : Int)) ≤ nq (64 * twP q) (-(q : Int)) := MX.nq_mono h.2
 have a2 : nq (-(64 * twP q)) (-(q : Int)) ≤ nq P (-(q : Int)) := MX.nq_mono h.1
 have t : nq 64 0 = nq (64 * twP q) (-(q : Int)) := (MX.nq_tw (c := 64) (w := q)).resolve_right (by omega)
 rw [MX.nq_neg, ← t] at a2
 rw [← t] at a1
 rw [c_rat] at a1 a2
 push_cast at a1 a2
 obtain ⟨r, v⟩ := Ar.of (Z := P) (E := -(q : Int)) (by omega) ((Bt.of_si s).mono (by omega)) ⟨a2, a1⟩
 exact ⟨r, v, s2, s⟩
variable {b b2 b3 b4 : Bool} {A A2 A3 A4 : Option Addr} {n c n2 c2 n3 c3 n4 c4 j j2 : Nat} {X Y U V q e : Int} {w : World}
theorem Enear_yes (h : Zr w b A n c X 140) (h2 : Zr w b2 A2 n2 c2 Y 140) (h3 : Zr w b3 A3 n3 c3 U 3) {Q : Nat} (hQ : Q ≤ 200) (he : -4000 ≤ e ∧ e ≤ 4000) (h4 : X ≤ -flI (-U) (e + Q)) (h5 : flI U (e + Q) ≤ Y) :
  Calls Tryz.prog 28 #[.agg #[.bool b, .slice A n c, .bool b2, .slice A2 n2 c2, .int .i64 (Q : Nat)], .agg #[.bool b3, .slice A3 n3 c3, .int .i64 e]] w (fun e w' => e = .returned (.bool true) ∧ Below w.heap.size w w') := by
 have HN : Hid ((-flI (-cM U e) (cE e + li (Q : Int)) = -flI (-U) (e + Q)) ∧ flI (cM U e) (cE e + li (Q : Int)) = flI U (e + Q)) := Lib.hid (by rw [(c_yes he).1, (c_yes (X := U) he).2, show li (Q : Int) = Q by unfold li; omega]; exact ⟨rfl, rfl⟩)
 generalize -flI (-U) (e + Q) = C at *
 generalize flI U (e + Q) = D at *
 obtain ⟨S1, hS1⟩ : ∃ e, sgnI (X - C) = e := ⟨_, rfl⟩
 have iS1 : S1 ≤ 0 := by rw [← hS1]; exact sgn_le8 (by omega)
 have jS1 : decide (S1 ≤ 0) = true := decide_eq_true iS1
 have HS1 := Lib.hid hS1; clear hS1
 obtain ⟨S2, hS2⟩ : ∃ e, sgnI (D - Y) = e := ⟨_, rfl⟩
 have iS2 : S2 ≤ 0 := by rw [← hS2]; exact sgn_le8 (by omega)
 have jS2 : decide (S2 ≤ 0) = true := decide_eq_true iS2
 have HS2 := Lib.hid hS2; clear hS2
 clear h4 h5
 go_enter Tryz.func28, Tryz.ntmps28
 go_upto_region 1 with fail
 refine al2 fun v1 hb x_b x_x => ?_
 replace x_b := Lx.of x_b; replace x_x := Dx.of x_x
 obtain ⟨h, h2, h3⟩ := mv3 hb h h2 h3
 have q_b := x_b.al
 have q_x := x_x.al
 go_region_held3 (fun w' => w'.cell? ⟨w.heap.size, 0, none⟩ = some (.bool b) ∧ w'.cell? ⟨w.heap.size, 1, none⟩ = some (.slice A n c) ∧ w'.cell? ⟨w.heap.size, 2, none⟩ = some (.bool b2) ∧ w'.cell? ⟨w.heap.size, 3, none⟩ = some (.slice A2 n2 c2) ∧ w'.cell? ⟨w.heap.size, 4, none⟩ = some (.int .i64 (Q : Int)) ∧ w'.cell? ⟨w.heap.size + 1, 0, none⟩ = some (.bool b3) ∧ w'.cell? ⟨w.heap.size + 1, 1, none⟩ = some (.slice A3 n3 c3) ∧ w'.cell? ⟨w.heap.size + 1, 2, none⟩ = some (.int .i64 e))
  (first | (with_reducible exact ⟨x_b.c0, x_b.c1, x_b.c2, x_b.c3, x_b.c4, x_x.c0, x_x.c1, x_x.c2⟩) | go_keep)
  (first | (go_at_call 56; (with_reducible refine (DCeil_any h3.drw (Q : Int) 131 (by omega) (by omega)).mono ?_); rintro e v2 ⟨A5, n5, c5, rfl, z5, hb1⟩; replace hb1 := undrew hb1; obtain ⟨x_b, x_x, h, h2, h3, hb⟩ := mv6 hb1 x_b x_x h h2 h3 hb; clear hb1; replace q_b := x_b.al; replace q_x := x_x.al; rw [HN.out.1] at z5 ⊢) | (go_at_call 23; (with_reducible refine (ZCmp_any h z5.zr (by omega) (by omega)).mono ?_); rintro e v3 ⟨rfl, hb1⟩; obtain ⟨x_b, x_x, h, h2, h3, z5, hb⟩ := mv7 hb1 x_b x_x h h2 h3 z5 hb; clear hb1; replace q_b := x_b.al; replace q_x := x_x.al; rw [HS1.out]) | (go_at_call 57; (with_reducible refine (DFloor_any h3 (Q : Int) 131 (by omega) (by omega)).mono ?_); rintro e v4 ⟨A6, n6, c6, rfl, z6, hb1⟩; obtain ⟨x_b, x_x, h, h2, h3, z5, hb⟩ := mv7 hb1 x_b x_x h h2 h3 z5 hb; clear hb1; replace q_b := x_b.al; replace q_x := x_x.al; rw [HN.out.2] at z6 ⊢) | (go_at_call 23; (with_reducible refine (ZCmp_any z6.zr h2 (by omega) (by omega)).mono ?_); rintro e v5 ⟨rfl, hb1⟩; obtain ⟨x_b, x_x, h, h2, h3, z5, z6, hb⟩ := mv8 hb1 x_b x_x h h2 h3 z5 z6 hb; clear hb1; replace q_b := x_b.al; replace q_x := x_x.al; rw [HS2.out]))
 go_wp2
 go_ret
 exact ⟨rfl, hb⟩
theorem ElemBack_any {l : List Int} (hT : Tab w) (h : Rd w w.heap.size A n c l) (q : Int) (hq : -9223372036854775808 ≤ q ∧ q ≤ 9223372036854775807) :
  Calls Tryz.prog 7 #[.agg #[.bool b, .slice A n c, .int .i64 e], .int .i64 q] w fun e w' => e = .returned (.bool true) ∧ Below w.heap.size w w' := by
 obtain ⟨N, hN, uN⟩ : ∃ N : Nat, bits .and .i64 q 127 = (N : Int) ∧ N ≤ 127 := ⟨(q % 128).toNat, by rw [i64_and127]; omega, by omega⟩
 clear hq
 go_enter Tryz.func7, Tryz.ntmps7
 go_wp2_with fail
 refine al1c fun v1 hb x_x => ?_
 replace x_x := Dx.of x_x
 obtain ⟨hT, h⟩ := mv2 hb hT h
 have q_x := x_x.al
 skip
 with_reducible refine (Eshown_any hT).mono ?_
 rintro e v2 ⟨rfl, hb1⟩
 obtain ⟨x_x, hT, h, hb⟩ := mv4 hb1 x_x hT h hb
 clear hb1
 replace q_x := x_x.al
 go_wp2_with fail
 with_reducible refine (Esmall_any h hT).mono ?_
 rintro e v3 ⟨X, f, A1, n1, c1, rfl, z1, sl, hb1⟩
 obtain ⟨x_x, hT, h, hb⟩ := mv4 hb1 x_x hT h hb
 clear hb1
 replace q_x := x_x.al
 clear h
 go_upto_region 3 with fail
 clear q_x
 refine x_x.st fun v4 hs hx => ?_
 obtain ⟨hT, z1, hb⟩ := ms3 hs ⟨hT.neD x_x, trivial, by omega⟩ hT z1 hb
 replace x_x := hx; clear hx hs
 have q_x := x_x.al
 rcases (show X < 0 ∨ X = 0 ∨ 0 < X by omega) with h0 | h0 | h0
 focus
  have HS : Hid (sgnI (cM X f) = -1) := Lib.hid (by rw [sl.sg]; unfold sgnI; rw [if_pos (by omega)])
  go_wp2_with fail
  with_reducible refine (DSign_any z1.zr (by omega)).mono ?_
  rintro e v5 ⟨rfl, hb1⟩
  obtain ⟨x_x, hT, z1, hb⟩ := mv4 hb1 x_x hT z1 hb
  clear hb1
  replace q_x := x_x.al
  rw [HS.out]
  have HN1 := Lib.hid sl.ng; have HSI1 : Hid (Si (-X) 3) := Lib.hid (by have := z1.zr.si; unfold Si at *; rw [Int.natAbs_neg]; exact this)
  go_wp2_with fail
  with_reducible refine (DNeg_any z1.zr hT 4 (by omega) (by omega)).mono ?_
  rintro e v6 ⟨A1, n1, c1, rfl, z1, hb1⟩
  obtain ⟨x_x, hT, hb⟩ := mv3 hb1 x_x hT hb
  clear hb1
  replace q_x := x_x.al
  rw [HN1.out.1] at z1 ⊢; rw [HN1.out.2]; replace z1 := z1.slim HSI1.out
  replace sl := sl.neg; clear HN1 HSI1
  go_wp2_with fail
  clear q_x
  refine x_x.stc fun v7 hs hx => ?_
  obtain ⟨hT, z1, hb⟩ := ms3 hs ⟨hT.neD x_x, trivial, by omega⟩ hT z1 hb
  replace x_x := hx; clear hx hs
  have q_x := x_x.al
  obtain ⟨Z, hZ⟩ : ∃ Z, -X = Z := ⟨_, rfl⟩
  rw [hZ] at sl z1 x_x ⊢
  replace h0 : 0 < Z := by omega
  clear hZ
  clear q_x
  obtain ⟨X, hZ⟩ : ∃ Y, Y = Z := ⟨_, rfl⟩
  subst hZ
  have q_x := x_x.al
  have HS2 : Hid (sgnI (cM X f) = 1) := Lib.hid (by rw [sl.sg]; unfold sgnI; rw [if_neg (by omega), if_neg (by omega)])
  go_wp2_with fail
  with_reducible refine (DSign_any z1.zr (by omega)).mono ?_
  rintro e v8 ⟨rfl, hb1⟩
  obtain ⟨x_x, hT, z1, hb⟩ := mv4 hb1 x_x hT z1 hb
  clear hb1
  replace q_x := x_x.al
  rw [HS2.out]
  clear HS HS2
 rotate_left
 ·have HS : Hid (sgnI (cM X f) = 0) := Lib.hid (by rw [sl.sg]; unfold sgnI; rw [if_neg (by omega), if_pos (by omega)])
  clear h0
  go_wp2_with fail
  with_reducible refine (DSign_any z1.zr (by omega)).mono ?_
  rintro e v5 ⟨rfl, hb1⟩
  obtain ⟨x_x, hT, z1, hb⟩ := mv4 hb1 x_x hT z1 hb
  clear hb1
  replace q_x := x_x.al
  rw [HS.out]
  go_wp2_with fail
  with_reducible refine (DSign_any z1.zr (by omega)).mono ?_
  rintro e v6 ⟨rfl, hb1⟩
  obtain ⟨x_x, hT, z1, hb⟩ := mv4 hb1 x_x hT z1 hb
  clear hb1
  replace q_x := x_x.al
  rw [HS.out]
  go_wp2
  go_ret
  exact ⟨rfl, hb⟩
 focus
  have HS : Hid (sgnI (cM X f) = 1) := Lib.hid (by rw [sl.sg]; unfold sgnI; rw [if_neg (by omega), if_neg (by omega)])
  go_wp2_with fail
  with_reducible refine (DSign_any z1.zr (by omega)).mono ?_
  rintro e v5 ⟨rfl, hb1⟩
  obtain ⟨x_x, hT, z1, hb⟩ := mv4 hb1 x_x hT z1 hb
  clear hb1
  replace q_x := x_x.al
  rw [HS.out]
  go_wp2_with fail
  with_reducible refine (DSign_any z1.zr (by omega)).mono ?_
  rintro e v6 ⟨rfl, hb1⟩
  obtain ⟨x_x, hT, z1, hb⟩ := mv4 hb1 x_x hT z1 hb
  clear hb1
  replace q_x := x_x.al
  rw [HS.out]
  clear HS
 all_goals
  go_wp2_with fail
  with_reducible refine (Fat (i := 2) (by omega) (z1.wide (by omega)).zr hT sl.ar (q := N) (by omega) (fun _ => ⟨h0, by have := lg_3 sl h0; omega⟩)).mono ?_
  rintro e v201 ⟨P11, R11, A11, n11, c11, A12, n12, c12, rfl, z11, z12, l11, F11, hb1⟩
  obtain ⟨x_x, hT, z1, hb⟩ := mv4 hb1 x_x hT z1 hb
  clear hb1
  replace q_x := x_x.al
  have lg := F11.lg rfl sl uN
  have o1 := of_ok (P := P11) uN ⟨lg.1, by omega⟩
  have o2 := of_ok (P := R11) uN ⟨by omega, lg.2⟩
  obtain ⟨p1, hp1⟩ : ∃ s, od (cM P11 (-(N : Int))) = s := ⟨_, rfl⟩
  obtain ⟨f1, hf1⟩ : ∃ s, nE (cM P11 (-(N : Int))) (cE (-(N : Int))) = s := ⟨_, rfl⟩
  rw [hp1, hf1] at o1
  have HO1 : Hid ((od (cM P11 (-(N : Int))) = p1 ∧ nE (cM P11 (-(N : Int))) (cE (-(N : Int))) = f1) ∧ Si p1 8) := Lib.hid ⟨⟨hp1, hf1⟩, o1.2.2.1⟩; clear hp1 hf1
  obtain ⟨p2, hp2⟩ : ∃ s, od (cM R11 (-(N : Int))) = s := ⟨_, rfl⟩
  obtain ⟨f2, hf2⟩ : ∃ s, nE (cM R11 (-(N : Int))) (cE (-(N : Int))) = s := ⟨_, rfl⟩
  rw [hp2, hf2] at o2
  have HO2 : Hid ((od (cM R11 (-(N : Int))) = p2 ∧ nE (cM R11 (-(N : Int))) (cE (-(N : Int))) = f2) ∧ Si p2 8) := Lib.hid ⟨⟨hp2, hf2⟩, o2.2.2.1⟩; clear hp2 hf2
  replace z11 := z11.slim o1.2.2.2; replace z12 := z12.slim o2.2.2.2
  clear lg
  have y_x := ((x_x.alloc (.cells #[.bool (ngB P11), .slice A11 n11 c11, .bool (ngB R11), .slice A12 n12 c12, .int .i64 (N : Int)] 31))).al
  go_wp2_with fail
  clear y_x
  have l_x_l := x_x.lt
  have e_l : w.heap.size ≤ v201.heap.size := hb.size
  clear q_x
  refine al1c fun v202 hb1 x_l => ?_
  replace x_l := Lx.of x_l
  obtain ⟨x_x, hT, z1, z11, z12, hb⟩ := mv6 hb1 x_x hT z1 z11 z12 hb
  clear hb1
  have q_x := x_x.al
  have q_l := x_l.al
  skip
  with_reducible refine (DOf_any z11.zr hT 9 (by omega) (by omega)).mono ?_
  rintro e v203 ⟨A5, n5, c5, rfl, z5, hb1⟩
  obtain ⟨x_x, x_l, hT, z1, z11, z12, hb⟩ := mv7 hb1 x_x x_l hT z1 z11 z12 hb
  clear hb1
  replace q_x := x_x.al
  replace q_l := x_l.al
  rw [HO1.out.1.1] at z5 ⊢; rw [HO1.out.1.2]; replace z5 := z5.slim HO1.out.2
  go_wp2_with fail
  with_reducible refine (Fat (i := 0) (by omega) z5.zr hT o1.1 (q := N) (by omega) (by omega)).mono ?_
  rintro e v204 ⟨P13, R13, A13, n13, c13, A14, n14, c14, rfl, z13, z14, l13, F13, hb1⟩
  obtain ⟨x_x, x_l, hT, z1, z11, z12, z5, hb⟩ := mv8 hb1 x_x x_l hT z1 z11 z12 z5 hb
  clear hb1
  replace q_x := x_x.al
  replace q_l := x_l.al
  have y_x := ((x_x.alloc (.cells #[.bool (ngB P13), .slice A13 n13 c13, .bool (ngB R13), .slice A14 n14 c14, .int .i64 (N : Int)] 31))).al
  have y_l := ((x_l.alloc (.cells #[.bool (ngB P13), .slice A13 n13 c13, .bool (ngB R13), .slice A14 n14 c14, .int .i64 (N : Int)] 31))).al
  go_wp2_with fail
  clear y_x y_l
  have l_x_a := x_x.lt
  have l_l_a := x_l.lt
  have e_a : w.heap.size ≤ v204.heap.size := hb.size
  clear q_x q_l
  refine al1c fun v205 hb1 x_a => ?_
  replace x_a := Lx.of x_a
  obtain ⟨x_x, x_l, hT, z1, z11, z12, z13, z14, hb⟩ := mv9 hb1 x_x x_l hT z1 z11 z12 z13 z14 hb
  clear hb1
  have q_x := x_x.al
  have q_l := x_l.al
  have q_a := x_a.al
  clear q_a
  skip
  with_reducible refine (DOf_any z12.zr hT 9 (by omega) (by omega)).mono ?_
  rintro e v206 ⟨A5, n5, c5, rfl, z5, hb1⟩
  obtain ⟨x_x, x_l, x_a, hT, z1, z11, z12, z13, z14⟩ := mv9 hb1 x_x x_l x_a hT z1 z11 z12 z13 z14
  replace hb := Mv.mv hb hb1
  clear hb1
  replace q_x := x_x.al
  replace q_l := x_l.al
  rw [HO2.out.1.1] at z5 ⊢; rw [HO2.out.1.2]; replace z5 := z5.slim HO2.out.2
  go_wp2_with fail
  with_reducible refine (Fat (i := 0) (by omega) z5.zr hT o2.1 (q := N) (by omega) (by omega)).mono ?_
  rintro e v207 ⟨P15, R15, A15, n15, c15, A16, n16, c16, rfl, z15, z16, l15, F15, hb1⟩
  obtain ⟨x_x, x_l, x_a, hT, z1, z11, z12, z13, z14⟩ := mv9 hb1 x_x x_l x_a hT z1 z11 z12 z13 z14
  obtain ⟨z5, hb⟩ := mv2 hb1 z5 hb
  clear hb1
  replace q_x := x_x.al
  replace q_l := x_l.al
  clear q_l
  have q_a := x_a.al
  have bk := back (by omega) sl h0 F11.hd o1.2.1 o2.2.1 F13.hd F15.hd
  have HB := Lib.hid bk
  have HR : Hid (rB P13 R15 N = true) := Lib.hid (rB_yes ⟨by omega, by omega, bk.1⟩)
  have HE : Hid (-4000 ≤ f ∧ f ≤ 4000) := Lib.hid ⟨by have := sl.lo; omega, by have := sl.hi; omega⟩
  clear bk F11 F13 F15 l11 l13 l15 o1 o2
  have y1_a := (x_a.alloc (.cells #[.bool (ngB P15), .slice A15 n15 c15, .bool (ngB R15), .slice A16 n16 c16, .int .i64 (N : Int)] 31)).al
  have y_x := (((x_x.alloc (.cells #[.bool (ngB P15), .slice A15 n15 c15, .bool (ngB R15), .slice A16 n16 c16, .int .i64 (N : Int)] 31)).alloc (.cells #[.bool (ngB P13), .slice A13 n13 c13, .bool (ngB R15), .slice A16 n16 c16, .int .i64 (N : Int)] 31))).al
  have y_a := (((x_a.alloc (.cells #[.bool (ngB P15), .slice A15 n15 c15, .bool (ngB R15), .slice A16 n16 c16, .int .i64 (N : Int)] 31)).alloc (.cells #[.bool (ngB P13), .slice A13 n13 c13, .bool (ngB R15), .slice A16 n16 c16, .int .i64 (N : Int)] 31))).al
  go_wp2_with fail
  clear y_x y_a
  have l_x_b := x_x.lt
  have l_a_b := x_a.lt
  have e_b : w.heap.size ≤ v207.heap.size := hb.size
  clear q_x q_a
  refine al2c fun v208 hb1 x_b x_o => ?_
  replace x_b := Lx.of x_b; replace x_o := Lx.of x_o
  obtain ⟨x_x, x_a, hT, z1, z13, z14, z15, z16, hb⟩ := mv9 hb1 x_x x_a hT z1 z13 z14 z15 z16 hb
  clear hb1
  have q_x := x_x.al
  have q_a := x_a.al
  have q_b := x_b.al
  have q_o := x_o.al
  skip
  with_reducible refine (Right_any z13.zr z16.zr (by omega) (by omega)).mono ?_
  rintro e v209 ⟨rfl, hb1⟩
  obtain ⟨x_x, x_o, hT, z1, z13, z14, z15, z16, hb⟩ := mv9 hb1 x_x x_o hT z1 z13 z14 z15 z16 hb
  clear hb1
  replace q_x := x_x.al
  replace q_o := x_o.al
  rw [HR.out]
  go_wp2_with fail
  with_reducible refine (Enear_yes z13.zr z16.zr z1.zr (by omega) HE.out HB.out.2.1 HB.out.2.2).mono ?_
  rintro e v210 ⟨rfl, hb1⟩
  obtain ⟨x_x, x_o, hT, z1, z13, z14, z15, z16, hb⟩ := mv9 hb1 x_x x_o hT z1 z13 z14 z15 z16 hb
  clear hb1
  replace q_x := x_x.al
  replace q_o := x_o.al
  go_wp2
  go_ret
  exact ⟨rfl, hb⟩
end Go.Proofs.YtjlbngjeekdfcaaGreatDoor
