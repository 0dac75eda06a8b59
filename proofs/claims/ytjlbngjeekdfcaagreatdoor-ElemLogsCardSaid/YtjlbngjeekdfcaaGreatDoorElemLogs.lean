/-
 The law ElemLogs, as a call.
-/
import Derived.Test.YtjlbngjeekdfcaaGreatDoorEshow
import Derived.Test.YtjlbngjeekdfcaaGreatDoorEval
import Derived.Test.YtjlbngjeekdfcaaGreatDoorLmeets
import Derived.Deep.DeepCutAuto
namespace Go.Proofs.YtjlbngjeekdfcaaGreatDoor
variable {e : Int}
set_option maxRecDepth 100000
set_option maxHeartbeats 64000000
set_option linter.unusedVariables false
open Go.RowKit
open MX (bLo bHi tA tZ xK xR xS yR yS uR uS gR gS hR hS wK wR wS vJ vKi vN vLo vHi nq Hd)
theorem logs_met {i X Y f S g P R U V M N : Int} {q : Nat} (hi : i = 2 ∨ i = 3) (hq : q ≤ 200) (a : Sl X e) (b : Sl Y f) (s : Ar S g) (h0 : 0 < X) (k0 : 0 < Y) (s0 : 0 < S) (h : nq S g = nq X e * nq Y f) (F : Fx i X e q P R) (G : Fx i Y f q U V) (K : Fx i S g q M N) : metB (P + U) (R + V) q M N q = true := by
 have m := (F.hd.add G.hd).rr (logs_rr hi a b s h0 k0 s0 h)
 exact MX.met_of m K.hd ⟨by omega, by omega, m.le⟩ ⟨by omega, by omega, K.hd.le⟩
theorem ElemLogs_any {b : Bool} {A : Option Addr} {n c : Nat} {l : List Int} {b2 : Bool} {A2 : Option Addr} {n2 c2 : Nat} {l2 : List Int} {e2 : Int} {w : World} (hT : Tab w) (h : Rd w w.heap.size A n c l) (h2 : Rd w w.heap.size A2 n2 c2 l2) (q : Int) (hq : -9223372036854775808 ≤ q ∧ q ≤ 9223372036854775807) (t : Bool) :
  Calls Tryz.prog 5 #[.agg #[.bool b, .slice A n c, .int .i64 e], .agg #[.bool b2, .slice A2 n2 c2, .int .i64 e2], .int .i64 q, .bool t] w fun e w' => e = .returned (.bool true) ∧ Below w.heap.size w w' := by
 obtain ⟨M, hM, uM⟩ : ∃ N : Nat, bits .and .i64 q 127 = (N : Int) ∧ N ≤ 127 := ⟨(q % 128).toNat, by rw [i64_and127]; omega, by omega⟩
 clear hq
 go_enter Tryz.func5, Tryz.ntmps5
 go_wp2_with fail
 refine al2c fun v1 hb x_x x_y => ?_
 replace x_x := Dx.of x_x; replace x_y := Dx.of x_y
 obtain ⟨hT, h, h2⟩ := mv3 hb hT h h2
 have q_x := x_x.al
 have q_y := x_y.al
 skip
 with_reducible refine (Eshown_any hT).mono ?_
 rintro e v2 ⟨rfl, hb1⟩
 obtain ⟨x_x, x_y, hT, h, h2, hb⟩ := mv6 hb1 x_x x_y hT h h2 hb
 clear hb1
 replace q_x := x_x.al
 replace q_y := x_y.al
 go_wp2_with fail
 with_reducible refine (Esmall_any h hT).mono ?_
 rintro e v3 ⟨X, f, A1, n1, c1, rfl, z1, sl, hb1⟩
 obtain ⟨x_x, x_y, hT, h, h2, hb⟩ := mv6 hb1 x_x x_y hT h h2 hb
 clear hb1
 replace q_x := x_x.al
 replace q_y := x_y.al
 clear h
 go_wp2_with fail
 clear q_x q_y
 refine x_x.stc fun v4 hs hx => ?_
 obtain ⟨x_y, hT, h2, z1, hb⟩ := ms5 hs ⟨by omega, hT.neD x_x, trivial, trivial, by omega⟩ x_y hT h2 z1 hb
 replace x_x := hx; clear hx hs
 have q_x := x_x.al
 have q_y := x_y.al
 go_wp2_with fail
 with_reducible refine (Esmall_any h2 hT).mono ?_
 rintro e v5 ⟨Y, g, A3, n3, c3, rfl, z3, sm, hb1⟩
 obtain ⟨x_x, x_y, hT, h2, z1, hb⟩ := mv6 hb1 x_x x_y hT h2 z1 hb
 clear hb1
 replace q_x := x_x.al
 replace q_y := x_y.al
 clear h2
 go_wp2_with fail
 clear q_x q_y
 refine x_y.stc fun v6 hs hx => ?_
 obtain ⟨x_x, hT, z1, z3, hb⟩ := ms5 hs ⟨by omega, hT.neD x_y, trivial, trivial, by omega⟩ x_x hT z1 z3 hb
 replace x_y := hx; clear hx hs
 have q_x := x_x.al
 have q_y := x_y.al
 rcases (show X < 0 ∨ X = 0 ∨ 0 < X by omega) with h0 | h0 | h0
 focus
  have HS : Hid (sgnI (cM X f) = -1) := Lib.hid (by rw [sl.sg]; unfold sgnI; rw [if_pos (by omega)])
  go_wp2_with fail
  with_reducible refine (DSign_any z1.zr (by omega)).mono ?_
  rintro e v7 ⟨rfl, hb1⟩
  obtain ⟨x_x, x_y, hT, z1, z3, hb⟩ := mv6 hb1 x_x x_y hT z1 z3 hb
  clear hb1
  replace q_x := x_x.al
  replace q_y := x_y.al
  rw [HS.out]
  have HN1 := Lib.hid sl.ng; have HSI1 : Hid (Si (-X) 3) := Lib.hid (by have := z1.zr.si; unfold Si at *; rw [Int.natAbs_neg]; exact this)
  go_wp2_with fail
  with_reducible refine (DNeg_any z1.zr hT 4 (by omega) (by omega)).mono ?_
  rintro e v8 ⟨A1, n1, c1, rfl, z1, hb1⟩
  obtain ⟨x_x, x_y, hT, z3, hb⟩ := mv5 hb1 x_x x_y hT z3 hb
  clear hb1
  replace q_x := x_x.al
  replace q_y := x_y.al
  rw [HN1.out.1] at z1 ⊢; rw [HN1.out.2]; replace z1 := z1.slim HSI1.out
  replace sl := sl.neg; clear HN1 HSI1
  go_wp2_with fail
  clear q_x q_y
  refine x_x.stc fun v9 hs hx => ?_
  obtain ⟨x_y, hT, z3, z1, hb⟩ := ms5 hs ⟨by omega, hT.neD x_x, trivial, trivial, by omega⟩ x_y hT z3 z1 hb
  replace x_x := hx; clear hx hs
  have q_x := x_x.al
  have q_y := x_y.al
  obtain ⟨Z, hZ⟩ : ∃ Z, -X = Z := ⟨_, rfl⟩
  rw [hZ] at sl z1 x_x ⊢
  replace h0 : 0 < Z := by omega
  clear hZ
  clear q_x
  obtain ⟨X, hZ⟩ : ∃ Y, Y = Z := ⟨_, rfl⟩
  subst hZ
  have q_x := x_x.al
  clear HS
 rotate_left
 ·have HX : Hid (sgnI (cM X f) = 0) := Lib.hid (by rw [sl.sg]; unfold sgnI; rw [if_neg (by omega), if_pos (by omega)])
  clear h0
  go_wp2_with fail
  with_reducible refine (DSign_any z1.zr (by omega)).mono ?_
  rintro e v7 ⟨rfl, hb1⟩
  obtain ⟨x_x, x_y, hT, z1, z3, hb⟩ := mv6 hb1 x_x x_y hT z1 z3 hb
  clear hb1
  replace q_x := x_x.al
  replace q_y := x_y.al
  rw [HX.out]
  rcases (show Y < 0 ∨ Y = 0 ∨ 0 < Y by omega) with k0 | k0 | k0
  ·have HS : Hid (sgnI (cM Y g) = -1) := Lib.hid (by rw [sm.sg]; unfold sgnI; rw [if_pos (by omega)])
   go_wp2_with fail
   with_reducible refine (DSign_any z3.zr (by omega)).mono ?_
   rintro e v8 ⟨rfl, hb1⟩
   obtain ⟨x_x, x_y, hT, z1, z3, hb⟩ := mv6 hb1 x_x x_y hT z1 z3 hb
   clear hb1
   replace q_x := x_x.al
   replace q_y := x_y.al
   rw [HS.out]
   have HN3 := Lib.hid sm.ng; have HSI3 : Hid (Si (-Y) 3) := Lib.hid (by have := z3.zr.si; unfold Si at *; rw [Int.natAbs_neg]; exact this)
   go_wp2_with fail
   with_reducible refine (DNeg_any z3.zr hT 4 (by omega) (by omega)).mono ?_
   rintro e v9 ⟨A3, n3, c3, rfl, z3, hb1⟩
   obtain ⟨x_x, x_y, hT, z1, hb⟩ := mv5 hb1 x_x x_y hT z1 hb
   clear hb1
   replace q_x := x_x.al
   replace q_y := x_y.al
   rw [HN3.out.1] at z3 ⊢; rw [HN3.out.2]; replace z3 := z3.slim HSI3.out
   replace sm := sm.neg; clear HN3 HSI3
   go_wp2_with fail
   clear q_x q_y
   refine x_y.stc fun v10 hs hx => ?_
   obtain ⟨x_x, hT, z1, z3, hb⟩ := ms5 hs ⟨by omega, hT.neD x_y, trivial, trivial, by omega⟩ x_x hT z1 z3 hb
   replace x_y := hx; clear hx hs
   have q_x := x_x.al
   have q_y := x_y.al
   obtain ⟨Z, hZ⟩ : ∃ Z, -Y = Z := ⟨_, rfl⟩
   rw [hZ] at sm z3 x_y ⊢
   replace k0 : 0 < Z := by omega
   clear hZ
   clear q_y
   obtain ⟨Y, hZ⟩ : ∃ Y, Y = Z := ⟨_, rfl⟩
   subst hZ
   have q_y := x_y.al
   go_wp2_with fail
   with_reducible refine (DSign_any z1.zr (by omega)).mono ?_
   rintro e v11 ⟨rfl, hb1⟩
   obtain ⟨x_x, x_y, hT, z1, z3, hb⟩ := mv6 hb1 x_x x_y hT z1 z3 hb
   clear hb1
   replace q_x := x_x.al
   replace q_y := x_y.al
   rw [HX.out]
   go_wp2
   go_ret
   exact ⟨rfl, hb⟩
  focus
   have HS : Hid (sgnI (cM Y g) = 0) := Lib.hid (by rw [sm.sg]; unfold sgnI; rw [if_neg (by omega), if_pos (by omega)])
   clear k0
  rotate_left
  focus
   have HS : Hid (sgnI (cM Y g) = 1) := Lib.hid (by rw [sm.sg]; unfold sgnI; rw [if_neg (by omega), if_neg (by omega)])
   clear k0
  all_goals
   go_wp2_with fail
   with_reducible refine (DSign_any z3.zr (by omega)).mono ?_
   rintro e v61 ⟨rfl, hb1⟩
   obtain ⟨x_x, x_y, hT, z1, z3, hb⟩ := mv6 hb1 x_x x_y hT z1 z3 hb
   clear hb1
   replace q_x := x_x.al
   replace q_y := x_y.al
   rw [HS.out]
   go_wp2_with fail
   with_reducible refine (DSign_any z1.zr (by omega)).mono ?_
   rintro e v62 ⟨rfl, hb1⟩
   obtain ⟨x_x, x_y, hT, z1, z3, hb⟩ := mv6 hb1 x_x x_y hT z1 z3 hb
   clear hb1
   replace q_x := x_x.al
   replace q_y := x_y.al
   rw [HX.out]
   go_wp2
   go_ret
   exact ⟨rfl, hb⟩
 focus
  have HS : Hid (sgnI (cM X f) = 1) := Lib.hid (by rw [sl.sg]; unfold sgnI; rw [if_neg (by omega), if_neg (by omega)])
  go_wp2_with fail
  with_reducible refine (DSign_any z1.zr (by omega)).mono ?_
  rintro e v7 ⟨rfl, hb1⟩
  obtain ⟨x_x, x_y, hT, z1, z3, hb⟩ := mv6 hb1 x_x x_y hT z1 z3 hb
  clear hb1
  replace q_x := x_x.al
  replace q_y := x_y.al
  rw [HS.out]
  clear HS
 all_goals
  have HX : Hid (sgnI (cM X f) = 1) := Lib.hid (by rw [sl.sg]; unfold sgnI; rw [if_neg (by omega), if_neg (by omega)])
  rcases (show Y < 0 ∨ Y = 0 ∨ 0 < Y by omega) with k0 | k0 | k0
  focus
   have HS : Hid (sgnI (cM Y g) = -1) := Lib.hid (by rw [sm.sg]; unfold sgnI; rw [if_pos (by omega)])
   go_wp2_with fail
   with_reducible refine (DSign_any z3.zr (by omega)).mono ?_
   rintro e v101 ⟨rfl, hb1⟩
   obtain ⟨x_x, x_y, hT, z1, z3, hb⟩ := mv6 hb1 x_x x_y hT z1 z3 hb
   clear hb1
   replace q_x := x_x.al
   replace q_y := x_y.al
   rw [HS.out]
   have HN3 := Lib.hid sm.ng; have HSI3 : Hid (Si (-Y) 3) := Lib.hid (by have := z3.zr.si; unfold Si at *; rw [Int.natAbs_neg]; exact this)
   go_wp2_with fail
   with_reducible refine (DNeg_any z3.zr hT 4 (by omega) (by omega)).mono ?_
   rintro e v102 ⟨A3, n3, c3, rfl, z3, hb1⟩
   obtain ⟨x_x, x_y, hT, z1, hb⟩ := mv5 hb1 x_x x_y hT z1 hb
   clear hb1
   replace q_x := x_x.al
   replace q_y := x_y.al
   rw [HN3.out.1] at z3 ⊢; rw [HN3.out.2]; replace z3 := z3.slim HSI3.out
   replace sm := sm.neg; clear HN3 HSI3
   go_wp2_with fail
   clear q_x q_y
   refine x_y.stc fun v103 hs hx => ?_
   obtain ⟨x_x, hT, z1, z3, hb⟩ := ms5 hs ⟨by omega, hT.neD x_y, trivial, trivial, by omega⟩ x_x hT z1 z3 hb
   replace x_y := hx; clear hx hs
   have q_x := x_x.al
   have q_y := x_y.al
   obtain ⟨Z, hZ⟩ : ∃ Z, -Y = Z := ⟨_, rfl⟩
   rw [hZ] at sm z3 x_y ⊢
   replace k0 : 0 < Z := by omega
   clear hZ
   clear q_y
   obtain ⟨Y, hZ⟩ : ∃ Y, Y = Z := ⟨_, rfl⟩
   subst hZ
   have q_y := x_y.al
   clear HS
   have HS : Hid (sgnI (cM Y g) = 1) := Lib.hid (by rw [sm.sg]; unfold sgnI; rw [if_neg (by omega), if_neg (by omega)])
   go_wp2_with fail
   with_reducible refine (DSign_any z1.zr (by omega)).mono ?_
   rintro e v104 ⟨rfl, hb1⟩
   obtain ⟨x_x, x_y, hT, z1, z3, hb⟩ := mv6 hb1 x_x x_y hT z1 z3 hb
   clear hb1
   replace q_x := x_x.al
   replace q_y := x_y.al
   rw [HX.out]
   go_wp2_with fail
   with_reducible refine (DSign_any z3.zr (by omega)).mono ?_
   rintro e v105 ⟨rfl, hb1⟩
   obtain ⟨x_x, x_y, hT, z1, z3, hb⟩ := mv6 hb1 x_x x_y hT z1 z3 hb
   clear hb1
   replace q_x := x_x.al
   replace q_y := x_y.al
   rw [HS.out]
   clear HX HS
  rotate_left
  ·have HS : Hid (sgnI (cM Y g) = 0) := Lib.hid (by rw [sm.sg]; unfold sgnI; rw [if_neg (by omega), if_pos (by omega)])
   clear k0
   go_wp2_with fail
   with_reducible refine (DSign_any z3.zr (by omega)).mono ?_
   rintro e v101 ⟨rfl, hb1⟩
   obtain ⟨x_x, x_y, hT, z1, z3, hb⟩ := mv6 hb1 x_x x_y hT z1 z3 hb
   clear hb1
   replace q_x := x_x.al
   replace q_y := x_y.al
   rw [HS.out]
   go_wp2_with fail
   with_reducible refine (DSign_any z1.zr (by omega)).mono ?_
   rintro e v102 ⟨rfl, hb1⟩
   obtain ⟨x_x, x_y, hT, z1, z3, hb⟩ := mv6 hb1 x_x x_y hT z1 z3 hb
   clear hb1
   replace q_x := x_x.al
   replace q_y := x_y.al
   rw [HX.out]
   go_wp2_with fail
   with_reducible refine (DSign_any z3.zr (by omega)).mono ?_
   rintro e v103 ⟨rfl, hb1⟩
   obtain ⟨x_x, x_y, hT, z1, z3, hb⟩ := mv6 hb1 x_x x_y hT z1 z3 hb
   clear hb1
   replace q_x := x_x.al
   replace q_y := x_y.al
   rw [HS.out]
   go_wp2
   go_ret
   exact ⟨rfl, hb⟩
  focus
   have HS : Hid (sgnI (cM Y g) = 1) := Lib.hid (by rw [sm.sg]; unfold sgnI; rw [if_neg (by omega), if_neg (by omega)])
   go_wp2_with fail
   with_reducible refine (DSign_any z3.zr (by omega)).mono ?_
   rintro e v101 ⟨rfl, hb1⟩
   obtain ⟨x_x, x_y, hT, z1, z3, hb⟩ := mv6 hb1 x_x x_y hT z1 z3 hb
   clear hb1
   replace q_x := x_x.al
   replace q_y := x_y.al
   rw [HS.out]
   go_wp2_with fail
   with_reducible refine (DSign_any z1.zr (by omega)).mono ?_
   rintro e v102 ⟨rfl, hb1⟩
   obtain ⟨x_x, x_y, hT, z1, z3, hb⟩ := mv6 hb1 x_x x_y hT z1 z3 hb
   clear hb1
   replace q_x := x_x.al
   replace q_y := x_y.al
   rw [HX.out]
   go_wp2_with fail
   with_reducible refine (DSign_any z3.zr (by omega)).mono ?_
   rintro e v103 ⟨rfl, hb1⟩
   obtain ⟨x_x, x_y, hT, z1, z3, hb⟩ := mv6 hb1 x_x x_y hT z1 z3 hb
   clear hb1
   replace q_x := x_x.al
   replace q_y := x_y.al
   rw [HS.out]
   clear HX HS
  all_goals
   have mul := sl.mul sm z1.zr.si z3.zr.si h0 k0
   obtain ⟨S, hS⟩ : ∃ S, od (cM X f * cM Y g) = S := ⟨_, rfl⟩
   obtain ⟨s, hs⟩ : ∃ s, nE (cM X f * cM Y g) (cE f + cE g) = s := ⟨_, rfl⟩
   rw [hS, hs] at mul
   have HS : Hid (od (cM X f * cM Y g) = S ∧ nE (cM X f * cM Y g) (cE f + cE g) = s) := Lib.hid ⟨hS, hs⟩; clear hS hs
   have m16 := mul_in ⟨sl.pos h0, sl.b.2⟩ ⟨sm.pos k0, sm.b.2⟩
   have sl3 := lg_nn mul.1 (by rw [mul.2.1]; grind) mul.2.2.2
   clear m16
   rcases t with _ | _
   all_goals
    go_wp2_with fail
    with_reducible refine (Fat (by omega) (z1.wide (by omega)).zr hT sl.ar (q := M) (by omega) (fun _ => ⟨h0, by have := lg_3 sl h0; omega⟩)).mono ?_
    rintro e v301 ⟨P11, R11, A11, n11, c11, A12, n12, c12, rfl, z11, z12, l11, F11, hb1⟩
    obtain ⟨x_x, x_y, hT, z1, z3, hb⟩ := mv6 hb1 x_x x_y hT z1 z3 hb
    clear hb1
    replace q_x := x_x.al
    replace q_y := x_y.al
    have y_x := ((x_x.alloc (.cells #[.bool (ngB P11), .slice A11 n11 c11, .bool (ngB R11), .slice A12 n12 c12, .int .i64 (M : Int)] 31))).al
    have y_y := ((x_y.alloc (.cells #[.bool (ngB P11), .slice A11 n11 c11, .bool (ngB R11), .slice A12 n12 c12, .int .i64 (M : Int)] 31))).al
    go_wp2_with fail
    clear y_x y_y
    have l_x_a := x_x.lt
    have l_y_a := x_y.lt
    have e_a : w.heap.size ≤ v301.heap.size := hb.size
    clear q_x q_y
    refine al1c fun v302 hb1 x_a => ?_
    replace x_a := Lx.of x_a
    obtain ⟨x_x, x_y, hT, z1, z3, z11, z12, hb⟩ := mv8 hb1 x_x x_y hT z1 z3 z11 z12 hb
    clear hb1
    have q_x := x_x.al
    have q_y := x_y.al
    have q_a := x_a.al
    clear q_a
    skip
    with_reducible refine (Fat (by omega) (z3.wide (by omega)).zr hT sm.ar (q := M) (by omega) (fun _ => ⟨k0, by have := lg_3 sm k0; omega⟩)).mono ?_
    rintro e v303 ⟨P13, R13, A13, n13, c13, A14, n14, c14, rfl, z13, z14, l13, F13, hb1⟩
    obtain ⟨x_x, x_y, x_a, hT, z1, z3, z11, z12, hb⟩ := mv9 hb1 x_x x_y x_a hT z1 z3 z11 z12 hb
    clear hb1
    replace q_x := x_x.al
    replace q_y := x_y.al
    have y_x := ((x_x.alloc (.cells #[.bool (ngB P13), .slice A13 n13 c13, .bool (ngB R13), .slice A14 n14 c14, .int .i64 (M : Int)] 31))).al
    have y_y := ((x_y.alloc (.cells #[.bool (ngB P13), .slice A13 n13 c13, .bool (ngB R13), .slice A14 n14 c14, .int .i64 (M : Int)] 31))).al
    go_wp2_with fail
    clear y_x y_y
    have l_x_b := x_x.lt
    have l_y_b := x_y.lt
    have l_a_b := x_a.lt
    have e_b : w.heap.size ≤ v303.heap.size := hb.size
    clear q_x q_y
    refine al1c fun v304 hb1 x_b => ?_
    replace x_b := Lx.of x_b
    obtain ⟨x_x, x_y, x_a, hT, z1, z3, z11, z12, z13⟩ := mv9 hb1 x_x x_y x_a hT z1 z3 z11 z12 z13
    obtain ⟨z14, hb⟩ := mv2 hb1 z14 hb
    clear hb1
    have q_x := x_x.al
    have q_y := x_y.al
    have q_b := x_b.al
    clear q_b
    skip
    with_reducible refine (DMul_any z1.zr z3.zr hT 6 (by omega) (by omega)).mono ?_
    rintro e v305 ⟨A5, n5, c5, rfl, z5, hb1⟩
    obtain ⟨x_x, x_y, x_a, x_b, hT, z1, z3, z11, z12⟩ := mv9 hb1 x_x x_y x_a x_b hT z1 z3 z11 z12
    obtain ⟨z13, z14, hb⟩ := mv3 hb1 z13 z14 hb
    clear hb1
    replace q_x := x_x.al
    replace q_y := x_y.al
    rw [HS.out.1] at z5 ⊢; rw [HS.out.2]
    go_wp2_with fail
    with_reducible refine (Fat (by omega) (z5.wide (by omega)).zr hT mul.1 (q := M) (by omega) (fun _ => ⟨mul.2.2.2, by omega⟩)).mono ?_
    rintro e v306 ⟨P15, R15, A15, n15, c15, A16, n16, c16, rfl, z15, z16, l15, F15, hb1⟩
    obtain ⟨x_x, x_y, x_a, x_b, hT, z11, z12, z13, z14⟩ := mv9 hb1 x_x x_y x_a x_b hT z11 z12 z13 z14
    obtain ⟨z5, hb⟩ := mv2 hb1 z5 hb
    clear hb1
    replace q_x := x_x.al
    replace q_y := x_y.al
    have q_a := x_a.al
    have q_b := x_b.al
    have MT : Hid (metB (P11 + P13) (R11 + R13) M P15 R15 M = true) := Lib.hid (logs_met (by omega) (by omega) sl sm mul.1 h0 k0 mul.2.2.2 mul.2.1 F11 F13 F15)
    have HC1 : Hid (mn4 (fun x y => x + y) P11 R11 P13 R13 = P11 + P13 ∧ mx4 (fun x y => x + y) P11 R11 P13 R13 = R11 + R13) := Lib.hid (by simp only [mn4, mx4]; omega)
    have HV : Hid (P11 ≤ R11 ∧ P13 ≤ R13) := Lib.hid ⟨l11, l13⟩
    clear F11 F13 F15 l11 l13 l15 mul h0 k0
    have y_a := ((x_a.alloc (.cells #[.bool (ngB P15), .slice A15 n15 c15, .bool (ngB R15), .slice A16 n16 c16, .int .i64 (M : Int)] 31))).al
    have y_b := ((x_b.alloc (.cells #[.bool (ngB P15), .slice A15 n15 c15, .bool (ngB R15), .slice A16 n16 c16, .int .i64 (M : Int)] 31))).al
    go_wp2_with fail
    clear y_a y_b
    have l_a_c := x_a.lt
    have l_b_c := x_b.lt
    have e_c : w.heap.size ≤ v306.heap.size := hb.size
    clear q_a q_b
    refine al1c fun v307 hb1 x_c => ?_
    replace x_c := Lx.of x_c
    obtain ⟨x_a, x_b, hT, z11, z12, z13, z14, z15, z16⟩ := mv9 hb1 x_a x_b hT z11 z12 z13 z14 z15 z16
    replace hb := Mv.mv hb hb1
    clear hb1
    have q_a := x_a.al
    have q_b := x_b.al
    have q_c := x_c.al
    clear q_c
    skip
    with_reducible refine (LAdd_any z11.zr z12.zr z13.zr z14.zr ⟨by omega, by omega, HV.out.1⟩ HV.out.2 140 (by omega) (by omega) (by omega) (by omega) 141 (by omega) (by omega)).mono ?_
    rintro e v308 ⟨A31, n31, c31, A32, n32, c32, rfl, z31, z32, hb1⟩
    obtain ⟨x_a, x_b, x_c, hT, z11, z12, z13, z14, z15⟩ := mv9 hb1 x_a x_b x_c hT z11 z12 z13 z14 z15
    obtain ⟨z16, hb⟩ := mv2 hb1 z16 hb
    clear hb1
    replace q_a := x_a.al
    replace q_b := x_b.al
    rw [HC1.out.1] at z31 ⊢; rw [HC1.out.2] at z32 ⊢
    have q_c := x_c.al
    have y_c := ((x_c.alloc (.cells #[.bool (ngB (P11 + P13)), .slice A31 n31 c31, .bool (ngB (R11 + R13)), .slice A32 n32 c32, .int .i64 (M : Int)] 31))).al
    go_wp2_with fail
    clear y_c
    have l_c_m := x_c.lt
    have e_m : w.heap.size ≤ v308.heap.size := hb.size
    clear q_c
    refine al1c fun v309 hb1 x_m => ?_
    replace x_m := Lx.of x_m
    obtain ⟨x_c, hT, z15, z16, z31, z32, hb⟩ := mv7 hb1 x_c hT z15 z16 z31 z32 hb
    clear hb1
    have q_c := x_c.al
    have q_m := x_m.al
    skip
    with_reducible refine (Meets_any z31.zr z32.zr z15.zr z16.zr (by omega) (by omega) (by omega) (by omega)).mono ?_
    rintro e v310 ⟨rfl, hb1⟩
    obtain ⟨x_c, x_m, hT, z15, z16, z31, z32, hb⟩ := mv8 hb1 x_c x_m hT z15 z16 z31 z32 hb
    clear hb1
    replace q_c := x_c.al
    replace q_m := x_m.al
    rw [MT.out]
    go_wp2
    go_ret
    exact ⟨rfl, hb⟩
end Go.Proofs.YtjlbngjeekdfcaaGreatDoor
