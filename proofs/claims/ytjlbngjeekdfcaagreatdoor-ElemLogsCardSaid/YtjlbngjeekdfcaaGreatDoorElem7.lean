/-
 elem: Sin, Cos.
-/
import Derived.Test.YtjlbngjeekdfcaaGreatDoorEnum4
import Derived.Test.YtjlbngjeekdfcaaGreatDoorElem5
import Derived.Test.YtjlbngjeekdfcaaGreatDoorElem6
namespace Go.Proofs.YtjlbngjeekdfcaaGreatDoor
set_option maxRecDepth 100000
set_option maxHeartbeats 4000000
set_option linter.unusedVariables false
open Go.RowKit
open MX (bLo bHi tA tZ xK xR xS yR yS uR uS gR gS hR hS wK wR wS vJ vKi vN vLo vHi nq Hd)
variable {b b2 b3 b4 : Bool} {A A2 A3 A4 : Option Addr} {n c n2 c2 n3 c3 n4 c4 j j2 : Nat} {X Y U V q e : Int} {w : World}
theorem Esin_any (h : Zr w b A n c X 8) (hT : Tab w) (a : Ar X e) {W : Nat} (hW : 40 ≤ W ∧ W < 256) :
  Calls Tryz.prog 168 #[.agg #[], .agg #[.bool b, .slice A n c, .int .i64 e], .int .i64 (W : Nat)] w (OuE w (vLo false (decide (X < 0)) (X.natAbs : Int) e W (W / 8 + 6)) (vHi false (decide (X < 0)) (X.natAbs : Int) e W (W / 8 + 6)) W 0) := by
 have hE : -4000 ≤ e ∧ e ≤ 4000 := ⟨by have := a.lo; omega, a.hi⟩
 obtain ⟨c1, c2⟩ := c_yes (X := X) hE
 rcases (show X < 0 ∨ 0 ≤ X by omega) with h0 | h0
 ·have HSG : Hid (sgnI (cM X e) = -1) := Lib.hid (by rw [c1]; unfold sgnI; rw [if_pos h0])
  have HNG : Hid (od (-cM X e) = -X ∧ nE (-cM X e) (cE e) = e) := Lib.hid (by rw [c1, c2]; exact a.neg.n)
  have hq : 0 ≤ nq (-X) e := nq_nn (by omega)
  have HSI : Hid (Si (-X) 8) := Lib.hid (by unfold Si; rw [Int.natAbs_neg]; exact h.si)
  have HAH := Lib.hid (fun w b A n c (h : Zr w b A n c (-X) 8) => Eahead_any false (C := 0) rfl h a.neg hq hW)
  have hd : decide (X < 0) = true := by simp; omega
  have ha : (X.natAbs : Int) = -X := by omega
  rw [hd, ha]
  have HT : Hid ((min (vLo false false (-X) e W (W / 8 + 6) * -1) (vHi false false (-X) e W (W / 8 + 6) * -1) = vLo false true (-X) e W (W / 8 + 6) ∧ max (vLo false false (-X) e W (W / 8 + 6) * -1) (vHi false false (-X) e W (W / 8 + 6) * -1) = vHi false true (-X) e W (W / 8 + 6)) ∧ Si (vLo false true (-X) e W (W / 8 + 6)) 8 ∧ Si (vHi false true (-X) e W (W / 8 + 6)) 8) := Lib.hid (v_turn hW hE.1 hq a.neg.b.2)
  have HLE : Hid (vLo false false (-X) e W (W / 8 + 6) ≤ vHi false false (-X) e W (W / 8 + 6)) := Lib.hid (v_le hW hE.1 ⟨hq, a.neg.b.2⟩)
  generalize vLo false true (-X) e W (W / 8 + 6) = T1 at *; generalize vHi false true (-X) e W (W / 8 + 6) = T2 at *
  generalize vLo false false (-X) e W (W / 8 + 6) = V1 at *; generalize vHi false false (-X) e W (W / 8 + 6) = V2 at *
  clear hq hd ha hE c1 c2
  go_enter Tryz.func168, Tryz.ntmps168
  go_wp2_with fail
  refine al3c fun v1 hb _ x_x x_r => ?_
  replace x_x := Dx.of x_x; replace x_r := Nx.of x_r
  obtain ⟨h, hT⟩ := mv2 hb h hT
  have q_x := x_x.al
  have q_r := x_r.al
  clear q_r
  skip
  with_reducible refine (DSign_any h (by omega)).mono ?_
  rintro e v2 ⟨rfl, hb1⟩
  obtain ⟨x_x, x_r, h, hT, hb⟩ := mv5 hb1 x_x x_r h hT hb
  clear hb1
  replace q_x := x_x.al
  rw [HSG.out]
  go_wp2_with fail
  with_reducible refine (DNeg_any h hT 9 (by omega) (by omega)).mono ?_
  rintro e v3 ⟨A5, n5, c5, rfl, z5, hb1⟩
  obtain ⟨x_x, x_r, h, hT, hb⟩ := mv5 hb1 x_x x_r h hT hb
  clear hb1
  replace q_x := x_x.al
  rw [HNG.out.1, HNG.out.2] at *; replace z5 := z5.slim HSI.out
  go_wp2_with fail
  skip
  with_reducible refine (HAH.out _ _ _ _ _ z5.zr).mono ?_
  rintro e v4 ⟨A11, n11, c11, A12, n12, c12, rfl, z11, z12, hb1⟩
  obtain ⟨x_r, z5, hb⟩ := mv3 hb1 x_r z5 hb
  clear hb1
  go_wp2_with fail
  with_reducible refine (Escaled_any z11 z12 ⟨by omega, by omega, HLE.out⟩ (-1) (by omega) T1 T2 HT.out).mono ?_
  rintro e v5 ⟨A13, n13, c13, A14, n14, c14, rfl, z13, z14, hb1⟩
  obtain ⟨x_r, z11, z12, hb⟩ := mv4 hb1 x_r z11 z12 hb
  clear hb1
  have q_r := x_r.al
  go_wp2
  clear q_r
  refine x_r.st fun v6 hs hx => ?_
  obtain ⟨z13, z14, hb⟩ := ms3 hs ⟨trivial, trivial, by omega⟩ z13 z14 hb
  replace x_r := hx; clear hx hs
  have q_r := x_r.al
  skip
  refine bodyPost_ret (v := .tuple #[.agg #[.bool (ngB T1), .slice A13 n13 c13, .bool (ngB T2), .slice A14 n14 c14, .int .i64 (W : Int)], .int .i64 0]) (by simp [results, Tryz.results168, go_sem, q_r]) rfl ?_
  exact ⟨_, _, _, _, _, _, rfl, z13, z14, hb⟩
 ·obtain ⟨C, hC⟩ : ∃ C, sgnI (cM X e) = C := ⟨_, rfl⟩
  have hC0 : ¬ C < 0 := by rw [← hC, c1]; unfold sgnI; split <;> (try split) <;> omega
  have HSG := Lib.hid hC; clear hC
  have hq : 0 ≤ nq X e := nq_nn h0
  have HAH := Lib.hid (fun w b A n c (h : Zr w b A n c (X) 8) => Eahead_any false (C := 0) rfl h a hq hW)
  have hd : decide (X < 0) = false := by simp; omega
  have ha : (X.natAbs : Int) = X := by omega
  rw [hd, ha]
  generalize vLo false false (X) e W (W / 8 + 6) = V1 at *; generalize vHi false false (X) e W (W / 8 + 6) = V2 at *
  clear hq hd ha hE c1 c2
  go_enter Tryz.func168, Tryz.ntmps168
  go_wp2_with fail
  refine al3c fun v1 hb _ x_x x_r => ?_
  replace x_x := Dx.of x_x; replace x_r := Nx.of x_r
  obtain ⟨h, hT⟩ := mv2 hb h hT
  have q_x := x_x.al
  have q_r := x_r.al
  clear q_r
  skip
  with_reducible refine (DSign_any h (by omega)).mono ?_
  rintro e v2 ⟨rfl, hb1⟩
  obtain ⟨x_x, x_r, h, hT, hb⟩ := mv5 hb1 x_x x_r h hT hb
  clear hb1
  replace q_x := x_x.al
  rw [HSG.out]
  go_wp2_with fail
  with_reducible refine (HAH.out _ _ _ _ _ h).mono ?_
  rintro e v3 ⟨A11, n11, c11, A12, n12, c12, rfl, z11, z12, hb1⟩
  obtain ⟨x_r, h, hT, hb⟩ := mv4 hb1 x_r h hT hb
  clear hb1
  have q_r := x_r.al
  go_wp2
  clear q_r
  refine x_r.st fun v4 hs hx => ?_
  obtain ⟨z11, z12, hb⟩ := ms3 hs ⟨trivial, trivial, by omega⟩ z11 z12 hb
  replace x_r := hx; clear hx hs
  have q_r := x_r.al
  skip
  refine bodyPost_ret (v := .tuple #[.agg #[.bool (ngB V1), .slice A11 n11 c11, .bool (ngB V2), .slice A12 n12 c12, .int .i64 (W : Int)], .int .i64 0]) (by simp [results, Tryz.results168, go_sem, q_r]) rfl ?_
  exact ⟨_, _, _, _, _, _, rfl, z11, z12, hb⟩
theorem Ecos_any (h : Zr w b A n c X 8) (hT : Tab w) (a : Ar X e) {W : Nat} (hW : 40 ≤ W ∧ W < 256) :
  Calls Tryz.prog 180 #[.agg #[], .agg #[.bool b, .slice A n c, .int .i64 e], .int .i64 (W : Nat)] w (OuE w (vLo true (decide (X < 0)) (X.natAbs : Int) e W (W / 8 + 6)) (vHi true (decide (X < 0)) (X.natAbs : Int) e W (W / 8 + 6)) W 0) := by
 have hE : -4000 ≤ e ∧ e ≤ 4000 := ⟨by have := a.lo; omega, a.hi⟩
 obtain ⟨c1, c2⟩ := c_yes (X := X) hE
 rcases (show X < 0 ∨ 0 ≤ X by omega) with h0 | h0
 ·have HSG : Hid (sgnI (cM X e) = -1) := Lib.hid (by rw [c1]; unfold sgnI; rw [if_pos h0])
  have HNG : Hid (od (-cM X e) = -X ∧ nE (-cM X e) (cE e) = e) := Lib.hid (by rw [c1, c2]; exact a.neg.n)
  have hq : 0 ≤ nq (-X) e := nq_nn (by omega)
  have HSI : Hid (Si (-X) 8) := Lib.hid (by unfold Si; rw [Int.natAbs_neg]; exact h.si)
  have HAH := Lib.hid (fun w b A n c (h : Zr w b A n c (-X) 8) => Eahead_any true (C := 1) rfl h a.neg hq hW)
  have hd : decide (X < 0) = true := by simp; omega
  have ha : (X.natAbs : Int) = -X := by omega
  rw [hd, ha]
  rw [v_cos, v_cos2]
  generalize vLo true false (-X) e W (W / 8 + 6) = V1 at *; generalize vHi true false (-X) e W (W / 8 + 6) = V2 at *
  clear hq hd ha hE c1 c2
  go_enter Tryz.func180, Tryz.ntmps180
  go_wp2_with fail
  refine al3c fun v1 hb _ x_x x_r => ?_
  replace x_x := Dx.of x_x; replace x_r := Nx.of x_r
  obtain ⟨h, hT⟩ := mv2 hb h hT
  have q_x := x_x.al
  have q_r := x_r.al
  clear q_r
  skip
  with_reducible refine (DSign_any h (by omega)).mono ?_
  rintro e v2 ⟨rfl, hb1⟩
  obtain ⟨x_x, x_r, h, hT, hb⟩ := mv5 hb1 x_x x_r h hT hb
  clear hb1
  replace q_x := x_x.al
  rw [HSG.out]
  go_wp2_with fail
  with_reducible refine (DNeg_any h hT 9 (by omega) (by omega)).mono ?_
  rintro e v3 ⟨A5, n5, c5, rfl, z5, hb1⟩
  obtain ⟨x_x, x_r, h, hT, hb⟩ := mv5 hb1 x_x x_r h hT hb
  clear hb1
  replace q_x := x_x.al
  rw [HNG.out.1, HNG.out.2] at *; replace z5 := z5.slim HSI.out
  have q_x := x_x.al
  go_wp2_with fail
  clear q_x
  refine x_x.stc fun v4 hs hx => ?_
  obtain ⟨x_r, z5, hb⟩ := ms3 hs ⟨by omega, trivial, by omega⟩ x_r z5 hb
  replace x_x := hx; clear hx hs
  have q_x := x_x.al
  go_wp2_with fail
  skip
  with_reducible refine (HAH.out _ _ _ _ _ z5.zr).mono ?_
  rintro e v5 ⟨A11, n11, c11, A12, n12, c12, rfl, z11, z12, hb1⟩
  obtain ⟨x_r, z5, hb⟩ := mv3 hb1 x_r z5 hb
  clear hb1
  have q_r := x_r.al
  go_wp2
  clear q_r
  refine x_r.st fun v6 hs hx => ?_
  obtain ⟨z11, z12, hb⟩ := ms3 hs ⟨trivial, trivial, by omega⟩ z11 z12 hb
  replace x_r := hx; clear hx hs
  have q_r := x_r.al
  skip
  refine bodyPost_ret (v := .tuple #[.agg #[.bool (ngB V1), .slice A11 n11 c11, .bool (ngB V2), .slice A12 n12 c12, .int .i64 (W : Int)], .int .i64 0]) (by simp [results, Tryz.results180, go_sem, q_r]) rfl ?_
  exact ⟨_, _, _, _, _, _, rfl, z11, z12, hb⟩
 ·obtain ⟨C, hC⟩ : ∃ C, sgnI (cM X e) = C := ⟨_, rfl⟩
  have hC0 : ¬ C < 0 := by rw [← hC, c1]; unfold sgnI; split <;> (try split) <;> omega
  have HSG := Lib.hid hC; clear hC
  have hq : 0 ≤ nq X e := nq_nn h0
  have HAH := Lib.hid (fun w b A n c (h : Zr w b A n c (X) 8) => Eahead_any true (C := 1) rfl h a hq hW)
  have hd : decide (X < 0) = false := by simp; omega
  have ha : (X.natAbs : Int) = X := by omega
  rw [hd, ha]
  generalize vLo true false (X) e W (W / 8 + 6) = V1 at *; generalize vHi true false (X) e W (W / 8 + 6) = V2 at *
  clear hq hd ha hE c1 c2
  go_enter Tryz.func180, Tryz.ntmps180
  go_wp2_with fail
  refine al3c fun v1 hb _ x_x x_r => ?_
  replace x_x := Dx.of x_x; replace x_r := Nx.of x_r
  obtain ⟨h, hT⟩ := mv2 hb h hT
  have q_x := x_x.al
  have q_r := x_r.al
  clear q_r
  skip
  with_reducible refine (DSign_any h (by omega)).mono ?_
  rintro e v2 ⟨rfl, hb1⟩
  obtain ⟨x_x, x_r, h, hT, hb⟩ := mv5 hb1 x_x x_r h hT hb
  clear hb1
  replace q_x := x_x.al
  rw [HSG.out]
  go_wp2_with fail
  with_reducible refine (HAH.out _ _ _ _ _ h).mono ?_
  rintro e v3 ⟨A11, n11, c11, A12, n12, c12, rfl, z11, z12, hb1⟩
  obtain ⟨x_r, h, hT, hb⟩ := mv4 hb1 x_r h hT hb
  clear hb1
  have q_r := x_r.al
  go_wp2
  clear q_r
  refine x_r.st fun v4 hs hx => ?_
  obtain ⟨z11, z12, hb⟩ := ms3 hs ⟨trivial, trivial, by omega⟩ z11 z12 hb
  replace x_r := hx; clear hx hs
  have q_r := x_r.al
  skip
  refine bodyPost_ret (v := .tuple #[.agg #[.bool (ngB V1), .slice A11 n11 c11, .bool (ngB V2), .slice A12 n12 c12, .int .i64 (W : Int)], .int .i64 0]) (by simp [results, Tryz.results180, go_sem, q_r]) rfl ?_
  exact ⟨_, _, _, _, _, _, rfl, z11, z12, hb⟩
end Go.Proofs.YtjlbngjeekdfcaaGreatDoor
