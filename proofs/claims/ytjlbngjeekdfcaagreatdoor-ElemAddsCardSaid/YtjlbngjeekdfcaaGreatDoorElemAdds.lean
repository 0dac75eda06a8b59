/-
 The law ElemAdds, as a call.
-/
import Derived.Test.YtjlbngjeekdfcaaGreatDoorEshow
import Derived.Test.YtjlbngjeekdfcaaGreatDoorEval
import Derived.Test.YtjlbngjeekdfcaaGreatDoorLmeets
import Derived.Deep.DeepCutAuto
namespace Go.Proofs.YtjlbngjeekdfcaaGreatDoor
variable {e : Int}
set_option maxRecDepth 100000
set_option maxHeartbeats 64000000
set_option linter.unusedVariables false
open Go.RowKit
open MX (bLo bHi tA tZ xK xR xS yR yS uR uS gR gS hR hS wK wR wS vJ vKi vN vLo vHi nq Hd)
theorem adds_met {i X Y f S g P R U V M N : Int} {q : Nat} (hi : i = 0 ∨ i = 1) (hq : q ≤ 200) (a : Ar X e) (b : Ar Y f) (s : Ar S g) (h : nq S g = nq X e + nq Y f) (F : Fx i X e q P R) (G : Fx i Y f q U V) (K : Fx i S g q M N) {M1 M2 : Int} (h1 : mn4 (fun x y => flI (x * y) (-(q : Int))) P R U V = M1) (h2 : mx4 (fun x y => -flI (-(x * y)) (-(q : Int))) P R U V = M2) : metB M1 M2 q M N q = true := by
 have r := adds_rr hi a b s h
 have m := F.hd.mul (q := q) ⟨by omega, by omega⟩ F.hd.le G.hd.le G.hd r.1
 rw [h1, h2] at m
 exact MX.met_of (m.rr r.2) K.hd ⟨by omega, by omega, m.le⟩ ⟨by omega, by omega, K.hd.le⟩
theorem ElemAdds_any {b : Bool} {A : Option Addr} {n c : Nat} {l : List Int} {b2 : Bool} {A2 : Option Addr} {n2 c2 : Nat} {l2 : List Int} {e2 : Int} {w : World} (hT : Tab w) (h : Rd w w.heap.size A n c l) (h2 : Rd w w.heap.size A2 n2 c2 l2) (q : Int) (hq : -9223372036854775808 ≤ q ∧ q ≤ 9223372036854775807) (t : Bool) :
  Calls Tryz.prog 4 #[.agg #[.bool b, .slice A n c, .int .i64 e], .agg #[.bool b2, .slice A2 n2 c2, .int .i64 e2], .int .i64 q, .bool t] w fun e w' => e = .returned (.bool true) ∧ Below w.heap.size w w' := by
 obtain ⟨sq, hsq, Q, wq, lq, uq, hqq⟩ := masked63 q 64 (by omega)
 clear hqq hq
 rcases t with _ | _
 all_goals
  go_enter Tryz.func4, Tryz.ntmps4
  go_wp2_with fail
  refine al2c fun v1 hb x_x x_y => ?_
  replace x_x := Dx.of x_x; replace x_y := Dx.of x_y
  obtain ⟨hT, h, h2⟩ := mv3 hb hT h h2
  have q_x := x_x.al
  have q_y := x_y.al
  skip
  with_reducible refine (Eshown_any hT).mono ?_
  rintro e v2 ⟨rfl, hb1⟩
  obtain ⟨x_x, x_y, hT, h, h2, hb⟩ := mv6 hb1 x_x x_y hT h h2 hb
  clear hb1
  replace q_x := x_x.al
  replace q_y := x_y.al
  go_wp2_with fail
  with_reducible refine (Esmall_any h hT).mono ?_
  rintro e v3 ⟨X, f, A1, n1, c1, rfl, z1, sl, hb1⟩
  obtain ⟨x_x, x_y, hT, h, h2, hb⟩ := mv6 hb1 x_x x_y hT h h2 hb
  clear hb1
  replace q_x := x_x.al
  replace q_y := x_y.al
  clear h
  go_wp2_with fail
  clear q_x q_y
  refine x_x.stc fun v4 hs hx => ?_
  obtain ⟨x_y, hT, h2, z1, hb⟩ := ms5 hs ⟨by omega, hT.neD x_x, trivial, trivial, by omega⟩ x_y hT h2 z1 hb
  replace x_x := hx; clear hx hs
  have q_x := x_x.al
  have q_y := x_y.al
  go_wp2_with fail
  with_reducible refine (Esmall_any h2 hT).mono ?_
  rintro e v5 ⟨Y, g, A3, n3, c3, rfl, z3, sm, hb1⟩
  obtain ⟨x_x, x_y, hT, h2, z1, hb⟩ := mv6 hb1 x_x x_y hT h2 z1 hb
  clear hb1
  replace q_x := x_x.al
  replace q_y := x_y.al
  clear h2
  go_wp2_with fail
  clear q_x q_y
  refine x_y.stc fun v6 hs hx => ?_
  obtain ⟨x_x, hT, z1, z3, hb⟩ := ms5 hs ⟨by omega, hT.neD x_y, trivial, trivial, by omega⟩ x_x hT z1 z3 hb
  replace x_y := hx; clear hx hs
  have q_x := x_x.al
  have q_y := x_y.al
  have add := sl.add sm z1.zr.si z3.zr.si
  obtain ⟨S, hS⟩ : ∃ S, od (alP X f g + alQ Y f g) = S := ⟨_, rfl⟩
  obtain ⟨s, hs⟩ : ∃ s, nE (alP X f g + alQ Y f g) (alE f g) = s := ⟨_, rfl⟩
  rw [hS, hs] at add
  have HS : Hid ((od (alP X f g + alQ Y f g) = S ∧ nE (alP X f g + alQ Y f g) (alE f g) = s) ∧ Si S 8) := Lib.hid ⟨⟨hS, hs⟩, add.2.2⟩; clear hS hs
  have hQ : Q ≤ 200 := by omega
  go_wp2_with fail
  skip
  with_reducible refine (Fat (by omega) (z1.wide (by omega)).zr hT sl.ar (q := Q) (by omega) (by omega)).mono ?_
  rintro e v7 ⟨P11, R11, A11, n11, c11, A12, n12, c12, rfl, z11, z12, l11, F11, hb1⟩
  obtain ⟨x_x, x_y, hT, z1, z3, hb⟩ := mv6 hb1 x_x x_y hT z1 z3 hb
  clear hb1
  replace q_x := x_x.al
  replace q_y := x_y.al
  have y_x := ((x_x.alloc (.cells #[.bool (ngB P11), .slice A11 n11 c11, .bool (ngB R11), .slice A12 n12 c12, .int .i64 (Q : Int)] 31))).al
  have y_y := ((x_y.alloc (.cells #[.bool (ngB P11), .slice A11 n11 c11, .bool (ngB R11), .slice A12 n12 c12, .int .i64 (Q : Int)] 31))).al
  go_wp2_with fail
  clear y_x y_y
  have l_x_a := x_x.lt
  have l_y_a := x_y.lt
  have e_a : w.heap.size ≤ v7.heap.size := hb.size
  clear q_x q_y
  refine al1c fun v8 hb1 x_a => ?_
  replace x_a := Lx.of x_a
  obtain ⟨x_x, x_y, hT, z1, z3, z11, z12, hb⟩ := mv8 hb1 x_x x_y hT z1 z3 z11 z12 hb
  clear hb1
  have q_x := x_x.al
  have q_y := x_y.al
  have q_a := x_a.al
  clear q_a
  go_wp2_with fail
  with_reducible refine (Fat (by omega) (z3.wide (by omega)).zr hT sm.ar (q := Q) (by omega) (by omega)).mono ?_
  rintro e v9 ⟨P13, R13, A13, n13, c13, A14, n14, c14, rfl, z13, z14, l13, F13, hb1⟩
  obtain ⟨x_x, x_y, x_a, hT, z1, z3, z11, z12, hb⟩ := mv9 hb1 x_x x_y x_a hT z1 z3 z11 z12 hb
  clear hb1
  replace q_x := x_x.al
  replace q_y := x_y.al
  have y_x := ((x_x.alloc (.cells #[.bool (ngB P13), .slice A13 n13 c13, .bool (ngB R13), .slice A14 n14 c14, .int .i64 (Q : Int)] 31))).al
  have y_y := ((x_y.alloc (.cells #[.bool (ngB P13), .slice A13 n13 c13, .bool (ngB R13), .slice A14 n14 c14, .int .i64 (Q : Int)] 31))).al
  go_wp2_with fail
  clear y_x y_y
  have l_x_b := x_x.lt
  have l_y_b := x_y.lt
  have l_a_b := x_a.lt
  have e_b : w.heap.size ≤ v9.heap.size := hb.size
  clear q_x q_y
  refine al1c fun v10 hb1 x_b => ?_
  replace x_b := Lx.of x_b
  obtain ⟨x_x, x_y, x_a, hT, z1, z3, z11, z12, z13⟩ := mv9 hb1 x_x x_y x_a hT z1 z3 z11 z12 z13
  obtain ⟨z14, hb⟩ := mv2 hb1 z14 hb
  clear hb1
  have q_x := x_x.al
  have q_y := x_y.al
  have q_b := x_b.al
  clear q_b
  go_wp2_with fail
  with_reducible refine (DAdd_any z1.zr z3.zr hT 132 (by omega) (by omega) (by omega)).mono ?_
  rintro e v11 ⟨A5, n5, c5, rfl, z5, hb1⟩
  obtain ⟨x_x, x_y, x_a, x_b, hT, z1, z3, z11, z12⟩ := mv9 hb1 x_x x_y x_a x_b hT z1 z3 z11 z12
  obtain ⟨z13, z14, hb⟩ := mv3 hb1 z13 z14 hb
  clear hb1
  replace q_x := x_x.al
  replace q_y := x_y.al
  rw [HS.out.1.1] at z5 ⊢; rw [HS.out.1.2]; replace z5 := z5.slim HS.out.2
  go_wp2_with fail
  with_reducible refine (Fat (by omega) z5.zr hT add.1 (q := Q) (by omega) (by omega)).mono ?_
  rintro e v12 ⟨P15, R15, A15, n15, c15, A16, n16, c16, rfl, z15, z16, l15, F15, hb1⟩
  obtain ⟨x_x, x_y, x_a, x_b, hT, z11, z12, z13, z14⟩ := mv9 hb1 x_x x_y x_a x_b hT z11 z12 z13 z14
  obtain ⟨z5, hb⟩ := mv2 hb1 z5 hb
  clear hb1
  replace q_x := x_x.al
  replace q_y := x_y.al
  have q_a := x_a.al
  have q_b := x_b.al
  have y_a := ((x_a.alloc (.cells #[.bool (ngB P15), .slice A15 n15 c15, .bool (ngB R15), .slice A16 n16 c16, .int .i64 (Q : Int)] 31))).al
  have y_b := ((x_b.alloc (.cells #[.bool (ngB P15), .slice A15 n15 c15, .bool (ngB R15), .slice A16 n16 c16, .int .i64 (Q : Int)] 31))).al
  go_wp2_with fail
  clear y_a y_b
  have l_a_c := x_a.lt
  have l_b_c := x_b.lt
  have e_c : w.heap.size ≤ v12.heap.size := hb.size
  clear q_a q_b
  refine al1c fun v13 hb1 x_c => ?_
  replace x_c := Lx.of x_c
  obtain ⟨x_a, x_b, hT, z11, z12, z13, z14, z15, z16⟩ := mv9 hb1 x_a x_b hT z11 z12 z13 z14 z15 z16
  replace hb := Mv.mv hb hb1
  clear hb1
  have q_a := x_a.al
  have q_b := x_b.al
  have q_c := x_c.al
  clear q_c
  obtain ⟨M1, hm1⟩ : ∃ M, mn4 (fun x y => flI (x * y) (-(Q : Int))) P11 R11 P13 R13 = M := ⟨_, rfl⟩
  obtain ⟨M2, hm2⟩ : ∃ M, mx4 (fun x y => -flI (-(x * y)) (-(Q : Int))) P11 R11 P13 R13 = M := ⟨_, rfl⟩
  have MT : Hid (metB M1 M2 Q P15 R15 Q = true) := Lib.hid (adds_met (by omega) hQ sl.ar sm.ar add.1 add.2.1 F11 F13 F15 hm1 hm2)
  have HC1 := Lib.hid (And.intro hm1 hm2)
  have HV : Hid (P11 ≤ R11 ∧ P13 ≤ R13) := Lib.hid ⟨l11, l13⟩
  clear hm1 hm2 F11 F13 F15 l11 l13 l15 add
  skip
  with_reducible refine (LMul_any z11.zr z12.zr z13.zr z14.zr ⟨by omega, by omega, HV.out.1⟩ HV.out.2 140 (by omega) (by omega) (by omega) (by omega) 408 (by omega) (by omega)).mono ?_
  rintro e v14 ⟨A31, n31, c31, A32, n32, c32, rfl, z31, z32, hb1⟩
  obtain ⟨x_a, x_b, x_c, hT, z11, z12, z13, z14, z15⟩ := mv9 hb1 x_a x_b x_c hT z11 z12 z13 z14 z15
  obtain ⟨z16, hb⟩ := mv2 hb1 z16 hb
  clear hb1
  replace q_a := x_a.al
  replace q_b := x_b.al
  rw [HC1.out.1] at z31 ⊢; rw [HC1.out.2] at z32 ⊢
  have q_c := x_c.al
  have y_c := ((x_c.alloc (.cells #[.bool (ngB M1), .slice A31 n31 c31, .bool (ngB M2), .slice A32 n32 c32, .int .i64 (Q : Int)] 31))).al
  go_wp2_with fail
  clear y_c
  have l_c_m := x_c.lt
  have e_m : w.heap.size ≤ v14.heap.size := hb.size
  clear q_c
  refine al1c fun v15 hb1 x_m => ?_
  replace x_m := Lx.of x_m
  obtain ⟨x_c, hT, z15, z16, z31, z32, hb⟩ := mv7 hb1 x_c hT z15 z16 z31 z32 hb
  clear hb1
  have q_c := x_c.al
  have q_m := x_m.al
  skip
  with_reducible refine (Meets_any z31.zr z32.zr z15.zr z16.zr (by omega) (by omega) (by omega) (by omega)).mono ?_
  rintro e v16 ⟨rfl, hb1⟩
  obtain ⟨x_c, x_m, hT, z15, z16, z31, z32, hb⟩ := mv8 hb1 x_c x_m hT z15 z16 z31 z32 hb
  clear hb1
  replace q_c := x_c.al
  replace q_m := x_m.al
  rw [MT.out]
  go_wp2
  go_ret
  exact ⟨rfl, hb⟩
end Go.Proofs.YtjlbngjeekdfcaaGreatDoor
