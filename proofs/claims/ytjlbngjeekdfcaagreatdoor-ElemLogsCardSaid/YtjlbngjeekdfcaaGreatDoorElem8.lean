/-
 elem: At.
-/
import Derived.Test.YtjlbngjeekdfcaaGreatDoorEnum6
import Derived.Test.YtjlbngjeekdfcaaGreatDoorElem4
import Derived.Test.YtjlbngjeekdfcaaGreatDoorElem7
namespace Go.Proofs.YtjlbngjeekdfcaaGreatDoor
set_option maxRecDepth 100000
set_option maxHeartbeats 4000000
set_option linter.unusedVariables false
open Go.RowKit
open MX (bLo bHi tA tZ xK xR xS yR yS uR uS gR gS hR hS wK wR wS vJ vKi vN vLo vHi nq Hd)
def OuA (w : World) (X Y q K : Int) (e : Ending) (w' : World) : Prop := ∃ A n c A2 n2 c2, e = .returned (.tuple #[.agg #[.bool (ngB X), .slice A n c, .bool (ngB Y), .slice A2 n2 c2, .int .i64 q], .int .i64 K, .int .i64 0]) ∧ Zn w' A n c X 8 ∧ Zn w' A2 n2 c2 Y 8 ∧ Below w.heap.size w w'
variable {b b2 b3 b4 : Bool} {A A2 A3 A4 : Option Addr} {n c n2 c2 n3 c3 n4 c4 j j2 : Nat} {X Y U V q e : Int} {w : World}
theorem Tab.neD {g : Nat} (h : Tab w) (x : Dx w g b A n c e) : 0 ≠ g := fun k => by
 have h1 := h.at_ 0 (by omega)
 have h2 := x.c0
 rw [← k] at h2
 rw [h2] at h1
 cases h1
theorem Etakes_any (h : Zr w b A n c X 8) (a : Ar X e) :
  Calls Tryz.prog 110 #[.agg #[], .agg #[.bool b, .slice A n c, .int .i64 e]] w (fun e' w' => e' = .returned (.bool true) ∧ Below w.heap.size w w') := by
 have hE : -4000 ≤ e ∧ e ≤ 4000 := ⟨by have := a.lo; omega, a.hi⟩
 obtain ⟨c1, c2⟩ := c_yes (X := X) hE
 have l6 := a.lg.1
 rcases (show X = 0 ∨ X ≠ 0 by omega) with h0 | h0
 ·have HLG : Hid (lgI (cM X e) (cE e) = lgI X e ∧ lgB (cM X e) = false) := Lib.hid ⟨by rw [c1, c2], by rw [c1]; unfold lgB; simp [h0]⟩
  generalize lgI X e = L at *
  clear c1 c2
  go_enter Tryz.func110, Tryz.ntmps110
  go_wp2_with fail
  refine al2c fun v1 hb _ x_x => ?_
  replace x_x := Dx.of x_x
  replace h := Mv.mv h hb
  have q_x := x_x.al
  skip
  with_reducible refine (DLog_any h (by omega)).mono ?_
  rintro e v2 ⟨rfl, hb1⟩
  obtain ⟨x_x, h, hb⟩ := mv3 hb1 x_x h hb
  clear hb1
  replace q_x := x_x.al
  rw [HLG.out.1, HLG.out.2]
  go_wp2
  go_ret
  exact ⟨rfl, hb⟩
 ·have HLG : Hid (lgI (cM X e) (cE e) = lgI X e ∧ lgB (cM X e) = true) := Lib.hid ⟨by rw [c1, c2], by rw [c1]; unfold lgB; simp [h0]⟩
  generalize lgI X e = L at *
  clear c1 c2
  go_enter Tryz.func110, Tryz.ntmps110
  go_wp2_with fail
  refine al2c fun v1 hb _ x_x => ?_
  replace x_x := Dx.of x_x
  replace h := Mv.mv h hb
  have q_x := x_x.al
  skip
  with_reducible refine (DLog_any h (by omega)).mono ?_
  rintro e v2 ⟨rfl, hb1⟩
  obtain ⟨x_x, h, hb⟩ := mv3 hb1 x_x h hb
  clear hb1
  replace q_x := x_x.al
  rw [HLG.out.1, HLG.out.2]
  go_wp2
  go_ret
  exact ⟨by rw [show decide (L ≤ 9) = true by simp; omega]; rfl, hb⟩
theorem EtakesP_any (h : Zr w b A n c X 8) (a : Ar X e) (h0 : 0 < X) (hl : -100 ≤ lgI X e) :
  Calls Tryz.prog 160 #[.agg #[], .agg #[.bool b, .slice A n c, .int .i64 e]] w (fun e' w' => e' = .returned (.bool true) ∧ Below w.heap.size w w') := by
 have hE : -4000 ≤ e ∧ e ≤ 4000 := ⟨by have := a.lo; omega, a.hi⟩
 obtain ⟨c1, c2⟩ := c_yes (X := X) hE
 have l6 := a.lg.1
 have HLG : Hid (lgI (cM X e) (cE e) = lgI X e) := Lib.hid (by rw [c1, c2])
 have HSG : Hid (sgnI (cM X e) = 1) := Lib.hid (by rw [c1]; unfold sgnI; rw [if_neg (by omega), if_neg (by omega)])
 generalize lgI X e = L at *
 clear c1 c2 h0
 go_enter Tryz.func160, Tryz.ntmps160
 go_wp2_with fail
 refine al2c fun v1 hb _ x_x => ?_
 replace x_x := Dx.of x_x
 replace h := Mv.mv h hb
 have q_x := x_x.al
 skip
 with_reducible refine (DLog_any h (by omega)).mono ?_
 rintro e v2 ⟨rfl, hb1⟩
 obtain ⟨x_x, h, hb⟩ := mv3 hb1 x_x h hb
 clear hb1
 replace q_x := x_x.al
 rw [HLG.out]
 go_wp2_with fail
 with_reducible refine (DSign_any h (by omega)).mono ?_
 rintro e v3 ⟨rfl, hb1⟩
 obtain ⟨x_x, h, hb⟩ := mv3 hb1 x_x h hb
 clear hb1
 replace q_x := x_x.al
 rw [HSG.out]
 have l7 : -1100 ≤ L := by omega
 go_wp2
 go_ret
 exact ⟨by rw [show decide (L ≤ 1100) = true by simp; omega]; rfl, hb⟩
theorem Efun0  :
  Calls Tryz.prog 58 #[.int .i64 0] w (fun e' w' => e' = .returned (.iface 97 (.agg #[])) ∧ Below w.heap.size w w') := by
 go_enter Tryz.func58, Tryz.ntmps58
 go_wp2
 go_ret
 exact ⟨rfl, Below.refl _ _⟩
theorem Efun1  :
  Calls Tryz.prog 58 #[.int .i64 1] w (fun e' w' => e' = .returned (.iface 98 (.agg #[])) ∧ Below w.heap.size w w') := by
 go_enter Tryz.func58, Tryz.ntmps58
 go_wp2
 go_ret
 exact ⟨rfl, Below.refl _ _⟩
theorem Efun2  :
  Calls Tryz.prog 58 #[.int .i64 2] w (fun e' w' => e' = .returned (.iface 101 (.agg #[])) ∧ Below w.heap.size w w') := by
 go_enter Tryz.func58, Tryz.ntmps58
 go_wp2
 go_ret
 exact ⟨rfl, Below.refl _ _⟩
theorem Efun3  :
  Calls Tryz.prog 58 #[.int .i64 3] w (fun e' w' => e' = .returned (.iface 102 (.agg #[])) ∧ Below w.heap.size w w') := by
 go_enter Tryz.func58, Tryz.ntmps58
 go_wp2
 go_ret
 exact ⟨rfl, Below.refl _ _⟩
theorem Efun4  :
  Calls Tryz.prog 58 #[.int .i64 4] w (fun e' w' => e' = .returned (.iface 103 (.agg #[])) ∧ Below w.heap.size w w') := by
 go_enter Tryz.func58, Tryz.ntmps58
 go_wp2
 go_ret
 exact ⟨rfl, Below.refl _ _⟩
theorem Efun5  :
  Calls Tryz.prog 58 #[.int .i64 5] w (fun e' w' => e' = .returned (.iface 104 (.agg #[])) ∧ Below w.heap.size w w') := by
 go_enter Tryz.func58, Tryz.ntmps58
 go_wp2
 go_ret
 exact ⟨rfl, Below.refl _ _⟩
theorem EAt0 (h : Zr w b A n c X 8) (hT : Tab w) (a : Ar X e) {q : Nat} (hq : q < 216) :
  Calls Tryz.prog 29 #[.int .i64 0, .agg #[.bool b, .slice A n c, .int .i64 e], .int .i64 (q : Nat)] w (OuA w (rcL (rwLo 0 (xR X e (q + 40)) (q + 40) ((q + 40) / 4 + 10)) q) (rcH (rwHi 0 (xS X e (q + 40)) (q + 40) ((q + 40) / 4 + 10)) q) q (xK X e (q + 40))) := by
 have HW : 40 ≤ q + 40 ∧ q + 40 < 256 := by omega
 have hE : -4000 ≤ e ∧ e ≤ 4000 := ⟨by have := a.lo; omega, a.hi⟩
 obtain ⟨c1, c2⟩ := c_yes (X := X) hE
 have HN : Hid (od (cM X e) = X ∧ nE (cM X e) (cE e) = e) := Lib.hid (by rw [c1, c2]; exact a.n)
 have lo := a.lo
 have hs : Si X 8 := h.si
 have en := exp_en a HW
 have HCO := Lib.hid (fun w b A n c (h : Zr w b A n c X 8) (hT : Tab w) => Eexp_any h a HW)
 have HTK := Lib.hid (fun w b A n c (h : Zr w b A n c X 8) => Etakes_any h a)
 obtain ⟨P, hP⟩ : ∃ P, rwLo 0 (xR X e (q + 40)) (q + 40) ((q + 40) / 4 + 10) = P := ⟨_, rfl⟩
 obtain ⟨R, hR⟩ : ∃ R, rwHi 0 (xS X e (q + 40)) (q + 40) ((q + 40) / 4 + 10) = R := ⟨_, rfl⟩
 obtain ⟨K, hK⟩ : ∃ K, xK X e (q + 40) = K := ⟨_, rfl⟩
 rw [hP, hR, hK] at HCO ⊢; rw [hP, hR] at en; clear hP hR hK
 have si := en.si hq
 have HEN := Lib.hid en.le
 have HRC : Hid ((flI P (-((q + 40 : Nat) : Int) + q) = rcL P q ∧ -flI (-R) (-((q + 40 : Nat) : Int) + q) = rcH R q) ∧ Si (rcL P q) 8 ∧ Si (rcH R q) 8) := Lib.hid ⟨⟨rfl, rfl⟩, si.2.2.2⟩
 have HS := Lib.hid hs; clear si en c1 c2 hE a hs
 generalize rcL P q = P2 at *; generalize rcH R q = R2 at *
 obtain ⟨W, hW⟩ : ∃ W, q + 40 = W := ⟨_, rfl⟩
 rw [hW] at HW HCO HRC; have HWQ : Hid ((q : Int) + 40 = (W : Int)) := Lib.hid (by omega); clear hW
 have m1 : ∀ w, (method 278 97 (.agg #[]) "hairline/elem.takes").run Tryz.prog w = .ok (110, .agg #[]) w := fun _ => by kernel_rfl
 have m2 : ∀ w, (method 278 97 (.agg #[]) "hairline/elem.enclose").run Tryz.prog w = .ok (112, .agg #[]) w := fun _ => by kernel_rfl
 go_enter Tryz.func29, Tryz.ntmps29
 go_wp2_with fail
 refine al2c fun v1 hb x_x x_r => ?_
 replace x_x := Dx.of x_x; replace x_r := Lx.of x_r
 obtain ⟨h, hT⟩ := mv2 hb h hT
 have q_x := x_x.al
 have q_r := x_r.al
 clear q_r
 skip
 with_reducible refine (Efun0).mono ?_
 rintro e v2 ⟨rfl, hb1⟩
 obtain ⟨x_x, x_r, h, hT, hb⟩ := mv5 hb1 x_x x_r h hT hb
 clear hb1
 replace q_x := x_x.al
 go_wp2_with fail
 with_reducible refine (HTK.out _ _ _ _ _ h).mono ?_
 rintro e v3 ⟨rfl, hb1⟩
 obtain ⟨x_x, x_r, h, hT, hb⟩ := mv5 hb1 x_x x_r h hT hb
 clear hb1
 replace q_x := x_x.al
 go_wp2_with fail
 with_reducible refine (DNorm_any h hT 9 (by omega) (by omega)).mono ?_
 rintro e v4 ⟨A5, n5, c5, rfl, z5, hb1⟩
 obtain ⟨x_x, x_r, h, hT, hb⟩ := mv5 hb1 x_x x_r h hT hb
 clear hb1
 replace q_x := x_x.al
 rw [HN.out.1, HN.out.2] at *; replace z5 := z5.slim HS.out
 have q_x := x_x.al
 go_wp2_with fail
 clear q_x
 refine x_x.stc fun v5 hs hx => ?_
 obtain ⟨x_r, hT, z5, hb⟩ := ms4 hs ⟨by omega, hT.neD x_x, trivial, by omega⟩ x_r hT z5 hb
 replace x_x := hx; clear hx hs
 have q_x := x_x.al
 go_wp2_with fail
 rw [HWQ.out]
 skip
 with_reducible refine (HCO.out _ _ _ _ _ z5.zr hT).mono ?_
 rintro e v6 ⟨A11, n11, c11, A12, n12, c12, rfl, z11, z12, hb1⟩
 obtain ⟨x_r, hT, z5, hb⟩ := mv4 hb1 x_r hT z5 hb
 clear hb1
 go_wp2_with fail
 have l_r_v := x_r.lt
 have e_v : w.heap.size ≤ v6.heap.size := hb.size
 refine al1c fun v7 hb1 x_v => ?_
 replace x_v := Nx.of x_v
 obtain ⟨x_r, z11, z12, hb⟩ := mv4 hb1 x_r z11 z12 hb
 clear hb1
 have q_v := x_v.al
 skip
 with_reducible refine (Recast_yes z11.zr z12.zr q ⟨by omega, by omega, HEN.out⟩ (by omega) 140 (by omega) (by omega) (by omega)).mono ?_
 rintro e v8 ⟨A21, n21, c21, A22, n22, c22, rfl, z21, z22, hb1⟩
 obtain ⟨x_r, z11, z12, hb⟩ := mv4 hb1 x_r z11 z12 hb
 clear hb1
 rw [HRC.out.1.1, HRC.out.1.2] at *; replace z21 := z21.slim HRC.out.2.1; replace z22 := z22.slim HRC.out.2.2
 go_upto_region 9 with fail
 have l_r_o := x_r.lt
 have e_o : w.heap.size ≤ v8.heap.size := hb.size
 refine al1 fun v9 hb1 x_o => ?_
 replace x_o := Lx.of x_o
 obtain ⟨x_r, z21, z22, hb⟩ := mv4 hb1 x_r z21 z22 hb
 clear hb1
 have q_o := x_o.al
 have q_r := x_r.al
 go_wp2
 clear q_r
 refine x_r.st fun v10 hs hx => ?_
 obtain ⟨z21, z22, hb⟩ := ms3 hs ⟨trivial, trivial, by omega⟩ z21 z22 hb
 replace x_r := hx; clear hx hs
 have q_r := x_r.al
 skip
 refine bodyPost_ret (v := .tuple #[.agg #[.bool (ngB P2), .slice A21 n21 c21, .bool (ngB R2), .slice A22 n22 c22, .int .i64 (q : Int)], .int .i64 K, .int .i64 0]) (by simp [results, Tryz.results29, go_sem, q_r]) rfl ?_
 exact ⟨_, _, _, _, _, _, rfl, z21, z22, hb⟩
theorem EAt1 (h : Zr w b A n c X 8) (hT : Tab w) (a : Ar X e) {q : Nat} (hq : q < 216) :
  Calls Tryz.prog 29 #[.int .i64 1, .agg #[.bool b, .slice A n c, .int .i64 e], .int .i64 (q : Nat)] w (OuA w (rcL (rwLo 0 (yR (r2M X e) (r2E X e) (q + 40)) (q + 40) ((q + 40) / 4 + 10)) q) (rcH (rwHi 0 (yS (r2M X e) (r2E X e) (q + 40)) (q + 40) ((q + 40) / 4 + 10)) q) q (flI X e)) := by
 have HW : 40 ≤ q + 40 ∧ q + 40 < 256 := by omega
 have hE : -4000 ≤ e ∧ e ≤ 4000 := ⟨by have := a.lo; omega, a.hi⟩
 obtain ⟨c1, c2⟩ := c_yes (X := X) hE
 have HN : Hid (od (cM X e) = X ∧ nE (cM X e) (cE e) = e) := Lib.hid (by rw [c1, c2]; exact a.n)
 have lo := a.lo
 have hs : Si X 8 := h.si
 have en := exp2_en a h.si HW
 have HCO := Lib.hid (fun w b A n c (h : Zr w b A n c X 8) (hT : Tab w) => Eexp2_any h hT h.si a HW)
 have HTK := Lib.hid (fun w b A n c (h : Zr w b A n c X 8) => Etakes_any h a)
 obtain ⟨P, hP⟩ : ∃ P, rwLo 0 (yR (r2M X e) (r2E X e) (q + 40)) (q + 40) ((q + 40) / 4 + 10) = P := ⟨_, rfl⟩
 obtain ⟨R, hR⟩ : ∃ R, rwHi 0 (yS (r2M X e) (r2E X e) (q + 40)) (q + 40) ((q + 40) / 4 + 10) = R := ⟨_, rfl⟩
 obtain ⟨K, hK⟩ : ∃ K, flI X e = K := ⟨_, rfl⟩
 rw [hP, hR, hK] at HCO ⊢; rw [hP, hR] at en; clear hP hR hK
 have si := en.si hq
 have HEN := Lib.hid en.le
 have HRC : Hid ((flI P (-((q + 40 : Nat) : Int) + q) = rcL P q ∧ -flI (-R) (-((q + 40 : Nat) : Int) + q) = rcH R q) ∧ Si (rcL P q) 8 ∧ Si (rcH R q) 8) := Lib.hid ⟨⟨rfl, rfl⟩, si.2.2.2⟩
 have HS := Lib.hid hs; clear si en c1 c2 hE a hs
 generalize rcL P q = P2 at *; generalize rcH R q = R2 at *
 obtain ⟨W, hW⟩ : ∃ W, q + 40 = W := ⟨_, rfl⟩
 rw [hW] at HW HCO HRC; have HWQ : Hid ((q : Int) + 40 = (W : Int)) := Lib.hid (by omega); clear hW
 have m1 : ∀ w, (method 278 98 (.agg #[]) "hairline/elem.takes").run Tryz.prog w = .ok (110, .agg #[]) w := fun _ => by kernel_rfl
 have m2 : ∀ w, (method 278 98 (.agg #[]) "hairline/elem.enclose").run Tryz.prog w = .ok (156, .agg #[]) w := fun _ => by kernel_rfl
 go_enter Tryz.func29, Tryz.ntmps29
 go_wp2_with fail
 refine al2c fun v1 hb x_x x_r => ?_
 replace x_x := Dx.of x_x; replace x_r := Lx.of x_r
 obtain ⟨h, hT⟩ := mv2 hb h hT
 have q_x := x_x.al
 have q_r := x_r.al
 clear q_r
 skip
 with_reducible refine (Efun1).mono ?_
 rintro e v2 ⟨rfl, hb1⟩
 obtain ⟨x_x, x_r, h, hT, hb⟩ := mv5 hb1 x_x x_r h hT hb
 clear hb1
 replace q_x := x_x.al
 go_wp2_with fail
 with_reducible refine (HTK.out _ _ _ _ _ h).mono ?_
 rintro e v3 ⟨rfl, hb1⟩
 obtain ⟨x_x, x_r, h, hT, hb⟩ := mv5 hb1 x_x x_r h hT hb
 clear hb1
 replace q_x := x_x.al
 go_wp2_with fail
 with_reducible refine (DNorm_any h hT 9 (by omega) (by omega)).mono ?_
 rintro e v4 ⟨A5, n5, c5, rfl, z5, hb1⟩
 obtain ⟨x_x, x_r, h, hT, hb⟩ := mv5 hb1 x_x x_r h hT hb
 clear hb1
 replace q_x := x_x.al
 rw [HN.out.1, HN.out.2] at *; replace z5 := z5.slim HS.out
 have q_x := x_x.al
 go_wp2_with fail
 clear q_x
 refine x_x.stc fun v5 hs hx => ?_
 obtain ⟨x_r, hT, z5, hb⟩ := ms4 hs ⟨by omega, hT.neD x_x, trivial, by omega⟩ x_r hT z5 hb
 replace x_x := hx; clear hx hs
 have q_x := x_x.al
 go_wp2_with fail
 rw [HWQ.out]
 skip
 with_reducible refine (HCO.out _ _ _ _ _ z5.zr hT).mono ?_
 rintro e v6 ⟨A11, n11, c11, A12, n12, c12, rfl, z11, z12, hb1⟩
 obtain ⟨x_r, hT, z5, hb⟩ := mv4 hb1 x_r hT z5 hb
 clear hb1
 go_wp2_with fail
 have l_r_v := x_r.lt
 have e_v : w.heap.size ≤ v6.heap.size := hb.size
 refine al1c fun v7 hb1 x_v => ?_
 replace x_v := Nx.of x_v
 obtain ⟨x_r, z11, z12, hb⟩ := mv4 hb1 x_r z11 z12 hb
 clear hb1
 have q_v := x_v.al
 skip
 with_reducible refine (Recast_yes z11.zr z12.zr q ⟨by omega, by omega, HEN.out⟩ (by omega) 140 (by omega) (by omega) (by omega)).mono ?_
 rintro e v8 ⟨A21, n21, c21, A22, n22, c22, rfl, z21, z22, hb1⟩
 obtain ⟨x_r, z11, z12, hb⟩ := mv4 hb1 x_r z11 z12 hb
 clear hb1
 rw [HRC.out.1.1, HRC.out.1.2] at *; replace z21 := z21.slim HRC.out.2.1; replace z22 := z22.slim HRC.out.2.2
 go_upto_region 9 with fail
 have l_r_o := x_r.lt
 have e_o : w.heap.size ≤ v8.heap.size := hb.size
 refine al1 fun v9 hb1 x_o => ?_
 replace x_o := Lx.of x_o
 obtain ⟨x_r, z21, z22, hb⟩ := mv4 hb1 x_r z21 z22 hb
 clear hb1
 have q_o := x_o.al
 have q_r := x_r.al
 go_wp2
 clear q_r
 refine x_r.st fun v10 hs hx => ?_
 obtain ⟨z21, z22, hb⟩ := ms3 hs ⟨trivial, trivial, by omega⟩ z21 z22 hb
 replace x_r := hx; clear hx hs
 have q_r := x_r.al
 skip
 refine bodyPost_ret (v := .tuple #[.agg #[.bool (ngB P2), .slice A21 n21 c21, .bool (ngB R2), .slice A22 n22 c22, .int .i64 (q : Int)], .int .i64 K, .int .i64 0]) (by simp [results, Tryz.results29, go_sem, q_r]) rfl ?_
 exact ⟨_, _, _, _, _, _, rfl, z21, z22, hb⟩
theorem EAt2 (h : Zr w b A n c X 8) (hT : Tab w) (a : Ar X e) {q : Nat} (hq : q < 216) (h0 : 0 < X) (hl : -100 ≤ lgI X e) :
  Calls Tryz.prog 29 #[.int .i64 2, .agg #[.bool b, .slice A n c, .int .i64 e], .int .i64 (q : Nat)] w (OuA w (rcL (gR X (e - lgI X e) (lgI X e) (q + 40) ((q + 40) / 3 + 2)) q) (rcH (gS X (e - lgI X e) (lgI X e) (q + 40) ((q + 40) / 3 + 2)) q) q (0)) := by
 have HW : 40 ≤ q + 40 ∧ q + 40 < 256 := by omega
 have hE : -4000 ≤ e ∧ e ≤ 4000 := ⟨by have := a.lo; omega, a.hi⟩
 obtain ⟨c1, c2⟩ := c_yes (X := X) hE
 have HN : Hid (od (cM X e) = X ∧ nE (cM X e) (cE e) = e) := Lib.hid (by rw [c1, c2]; exact a.n)
 have lo := a.lo
 have hs : Si X 8 := h.si
 have en := log_en a h0 hl HW
 have HCO := Lib.hid (fun w b A n c (h : Zr w b A n c X 8) (hT : Tab w) => Elog_any h hT a h0 hl HW)
 have HTK := Lib.hid (fun w b A n c (h : Zr w b A n c X 8) => EtakesP_any h a h0 hl)
 obtain ⟨P, hP⟩ : ∃ P, gR X (e - lgI X e) (lgI X e) (q + 40) ((q + 40) / 3 + 2) = P := ⟨_, rfl⟩
 obtain ⟨R, hR⟩ : ∃ R, gS X (e - lgI X e) (lgI X e) (q + 40) ((q + 40) / 3 + 2) = R := ⟨_, rfl⟩
 rw [hP, hR] at HCO ⊢; rw [hP, hR] at en; clear hP hR
 have si := en.si hq
 have HEN := Lib.hid en.le
 have HRC : Hid ((flI P (-((q + 40 : Nat) : Int) + q) = rcL P q ∧ -flI (-R) (-((q + 40 : Nat) : Int) + q) = rcH R q) ∧ Si (rcL P q) 8 ∧ Si (rcH R q) 8) := Lib.hid ⟨⟨rfl, rfl⟩, si.2.2.2⟩
 have HS := Lib.hid hs; clear si en c1 c2 hE a hs h0 hl
 generalize rcL P q = P2 at *; generalize rcH R q = R2 at *
 obtain ⟨W, hW⟩ : ∃ W, q + 40 = W := ⟨_, rfl⟩
 rw [hW] at HW HCO HRC; have HWQ : Hid ((q : Int) + 40 = (W : Int)) := Lib.hid (by omega); clear hW
 have m1 : ∀ w, (method 278 101 (.agg #[]) "hairline/elem.takes").run Tryz.prog w = .ok (160, .agg #[]) w := fun _ => by kernel_rfl
 have m2 : ∀ w, (method 278 101 (.agg #[]) "hairline/elem.enclose").run Tryz.prog w = .ok (161, .agg #[]) w := fun _ => by kernel_rfl
 go_enter Tryz.func29, Tryz.ntmps29
 go_wp2_with fail
 refine al2c fun v1 hb x_x x_r => ?_
 replace x_x := Dx.of x_x; replace x_r := Lx.of x_r
 obtain ⟨h, hT⟩ := mv2 hb h hT
 have q_x := x_x.al
 have q_r := x_r.al
 clear q_r
 skip
 with_reducible refine (Efun2).mono ?_
 rintro e v2 ⟨rfl, hb1⟩
 obtain ⟨x_x, x_r, h, hT, hb⟩ := mv5 hb1 x_x x_r h hT hb
 clear hb1
 replace q_x := x_x.al
 go_wp2_with fail
 with_reducible refine (HTK.out _ _ _ _ _ h).mono ?_
 rintro e v3 ⟨rfl, hb1⟩
 obtain ⟨x_x, x_r, h, hT, hb⟩ := mv5 hb1 x_x x_r h hT hb
 clear hb1
 replace q_x := x_x.al
 go_wp2_with fail
 with_reducible refine (DNorm_any h hT 9 (by omega) (by omega)).mono ?_
 rintro e v4 ⟨A5, n5, c5, rfl, z5, hb1⟩
 obtain ⟨x_x, x_r, h, hT, hb⟩ := mv5 hb1 x_x x_r h hT hb
 clear hb1
 replace q_x := x_x.al
 rw [HN.out.1, HN.out.2] at *; replace z5 := z5.slim HS.out
 have q_x := x_x.al
 go_wp2_with fail
 clear q_x
 refine x_x.stc fun v5 hs hx => ?_
 obtain ⟨x_r, hT, z5, hb⟩ := ms4 hs ⟨by omega, hT.neD x_x, trivial, by omega⟩ x_r hT z5 hb
 replace x_x := hx; clear hx hs
 have q_x := x_x.al
 go_wp2_with fail
 rw [HWQ.out]
 skip
 with_reducible refine (HCO.out _ _ _ _ _ z5.zr hT).mono ?_
 rintro e v6 ⟨A11, n11, c11, A12, n12, c12, rfl, z11, z12, hb1⟩
 obtain ⟨x_r, hT, z5, hb⟩ := mv4 hb1 x_r hT z5 hb
 clear hb1
 go_wp2_with fail
 have l_r_v := x_r.lt
 have e_v : w.heap.size ≤ v6.heap.size := hb.size
 refine al1c fun v7 hb1 x_v => ?_
 replace x_v := Nx.of x_v
 obtain ⟨x_r, z11, z12, hb⟩ := mv4 hb1 x_r z11 z12 hb
 clear hb1
 have q_v := x_v.al
 skip
 with_reducible refine (Recast_yes z11.zr z12.zr q ⟨by omega, by omega, HEN.out⟩ (by omega) 140 (by omega) (by omega) (by omega)).mono ?_
 rintro e v8 ⟨A21, n21, c21, A22, n22, c22, rfl, z21, z22, hb1⟩
 obtain ⟨x_r, z11, z12, hb⟩ := mv4 hb1 x_r z11 z12 hb
 clear hb1
 rw [HRC.out.1.1, HRC.out.1.2] at *; replace z21 := z21.slim HRC.out.2.1; replace z22 := z22.slim HRC.out.2.2
 go_upto_region 9 with fail
 have l_r_o := x_r.lt
 have e_o : w.heap.size ≤ v8.heap.size := hb.size
 refine al1 fun v9 hb1 x_o => ?_
 replace x_o := Lx.of x_o
 obtain ⟨x_r, z21, z22, hb⟩ := mv4 hb1 x_r z21 z22 hb
 clear hb1
 have q_o := x_o.al
 have q_r := x_r.al
 go_wp2
 clear q_r
 refine x_r.st fun v10 hs hx => ?_
 obtain ⟨z21, z22, hb⟩ := ms3 hs ⟨trivial, trivial, by omega⟩ z21 z22 hb
 replace x_r := hx; clear hx hs
 have q_r := x_r.al
 skip
 refine bodyPost_ret (v := .tuple #[.agg #[.bool (ngB P2), .slice A21 n21 c21, .bool (ngB R2), .slice A22 n22 c22, .int .i64 (q : Int)], .int .i64 0, .int .i64 0]) (by simp [results, Tryz.results29, go_sem, q_r]) rfl ?_
 exact ⟨_, _, _, _, _, _, rfl, z21, z22, hb⟩
theorem EAt3 (h : Zr w b A n c X 8) (hT : Tab w) (a : Ar X e) {q : Nat} (hq : q < 216) (h0 : 0 < X) (hl : -100 ≤ lgI X e) :
  Calls Tryz.prog 29 #[.int .i64 3, .agg #[.bool b, .slice A n c, .int .i64 e], .int .i64 (q : Nat)] w (OuA w (rcL (hR X (e - lgI X e) (lgI X e) (q + 40) ((q + 40) / 3 + 2)) q) (rcH (hS X (e - lgI X e) (lgI X e) (q + 40) ((q + 40) / 3 + 2)) q) q (0)) := by
 have HW : 40 ≤ q + 40 ∧ q + 40 < 256 := by omega
 have hE : -4000 ≤ e ∧ e ≤ 4000 := ⟨by have := a.lo; omega, a.hi⟩
 obtain ⟨c1, c2⟩ := c_yes (X := X) hE
 have HN : Hid (od (cM X e) = X ∧ nE (cM X e) (cE e) = e) := Lib.hid (by rw [c1, c2]; exact a.n)
 have lo := a.lo
 have hs : Si X 8 := h.si
 have en := log2_en a h0 hl HW
 have HCO := Lib.hid (fun w b A n c (h : Zr w b A n c X 8) (hT : Tab w) => Elog2_any h hT a h0 hl HW)
 have HTK := Lib.hid (fun w b A n c (h : Zr w b A n c X 8) => EtakesP_any h a h0 hl)
 obtain ⟨P, hP⟩ : ∃ P, hR X (e - lgI X e) (lgI X e) (q + 40) ((q + 40) / 3 + 2) = P := ⟨_, rfl⟩
 obtain ⟨R, hR⟩ : ∃ R, hS X (e - lgI X e) (lgI X e) (q + 40) ((q + 40) / 3 + 2) = R := ⟨_, rfl⟩
 rw [hP, hR] at HCO ⊢; rw [hP, hR] at en; clear hP hR
 have si := en.si hq
 have HEN := Lib.hid en.le
 have HRC : Hid ((flI P (-((q + 40 : Nat) : Int) + q) = rcL P q ∧ -flI (-R) (-((q + 40 : Nat) : Int) + q) = rcH R q) ∧ Si (rcL P q) 8 ∧ Si (rcH R q) 8) := Lib.hid ⟨⟨rfl, rfl⟩, si.2.2.2⟩
 have HS := Lib.hid hs; clear si en c1 c2 hE a hs h0 hl
 generalize rcL P q = P2 at *; generalize rcH R q = R2 at *
 obtain ⟨W, hW⟩ : ∃ W, q + 40 = W := ⟨_, rfl⟩
 rw [hW] at HW HCO HRC; have HWQ : Hid ((q : Int) + 40 = (W : Int)) := Lib.hid (by omega); clear hW
 have m1 : ∀ w, (method 278 102 (.agg #[]) "hairline/elem.takes").run Tryz.prog w = .ok (160, .agg #[]) w := fun _ => by kernel_rfl
 have m2 : ∀ w, (method 278 102 (.agg #[]) "hairline/elem.enclose").run Tryz.prog w = .ok (167, .agg #[]) w := fun _ => by kernel_rfl
 go_enter Tryz.func29, Tryz.ntmps29
 go_wp2_with fail
 refine al2c fun v1 hb x_x x_r => ?_
 replace x_x := Dx.of x_x; replace x_r := Lx.of x_r
 obtain ⟨h, hT⟩ := mv2 hb h hT
 have q_x := x_x.al
 have q_r := x_r.al
 clear q_r
 skip
 with_reducible refine (Efun3).mono ?_
 rintro e v2 ⟨rfl, hb1⟩
 obtain ⟨x_x, x_r, h, hT, hb⟩ := mv5 hb1 x_x x_r h hT hb
 clear hb1
 replace q_x := x_x.al
 go_wp2_with fail
 with_reducible refine (HTK.out _ _ _ _ _ h).mono ?_
 rintro e v3 ⟨rfl, hb1⟩
 obtain ⟨x_x, x_r, h, hT, hb⟩ := mv5 hb1 x_x x_r h hT hb
 clear hb1
 replace q_x := x_x.al
 go_wp2_with fail
 with_reducible refine (DNorm_any h hT 9 (by omega) (by omega)).mono ?_
 rintro e v4 ⟨A5, n5, c5, rfl, z5, hb1⟩
 obtain ⟨x_x, x_r, h, hT, hb⟩ := mv5 hb1 x_x x_r h hT hb
 clear hb1
 replace q_x := x_x.al
 rw [HN.out.1, HN.out.2] at *; replace z5 := z5.slim HS.out
 have q_x := x_x.al
 go_wp2_with fail
 clear q_x
 refine x_x.stc fun v5 hs hx => ?_
 obtain ⟨x_r, hT, z5, hb⟩ := ms4 hs ⟨by omega, hT.neD x_x, trivial, by omega⟩ x_r hT z5 hb
 replace x_x := hx; clear hx hs
 have q_x := x_x.al
 go_wp2_with fail
 rw [HWQ.out]
 skip
 with_reducible refine (HCO.out _ _ _ _ _ z5.zr hT).mono ?_
 rintro e v6 ⟨A11, n11, c11, A12, n12, c12, rfl, z11, z12, hb1⟩
 obtain ⟨x_r, hT, z5, hb⟩ := mv4 hb1 x_r hT z5 hb
 clear hb1
 go_wp2_with fail
 have l_r_v := x_r.lt
 have e_v : w.heap.size ≤ v6.heap.size := hb.size
 refine al1c fun v7 hb1 x_v => ?_
 replace x_v := Nx.of x_v
 obtain ⟨x_r, z11, z12, hb⟩ := mv4 hb1 x_r z11 z12 hb
 clear hb1
 have q_v := x_v.al
 skip
 with_reducible refine (Recast_yes z11.zr z12.zr q ⟨by omega, by omega, HEN.out⟩ (by omega) 140 (by omega) (by omega) (by omega)).mono ?_
 rintro e v8 ⟨A21, n21, c21, A22, n22, c22, rfl, z21, z22, hb1⟩
 obtain ⟨x_r, z11, z12, hb⟩ := mv4 hb1 x_r z11 z12 hb
 clear hb1
 rw [HRC.out.1.1, HRC.out.1.2] at *; replace z21 := z21.slim HRC.out.2.1; replace z22 := z22.slim HRC.out.2.2
 go_upto_region 9 with fail
 have l_r_o := x_r.lt
 have e_o : w.heap.size ≤ v8.heap.size := hb.size
 refine al1 fun v9 hb1 x_o => ?_
 replace x_o := Lx.of x_o
 obtain ⟨x_r, z21, z22, hb⟩ := mv4 hb1 x_r z21 z22 hb
 clear hb1
 have q_o := x_o.al
 have q_r := x_r.al
 go_wp2
 clear q_r
 refine x_r.st fun v10 hs hx => ?_
 obtain ⟨z21, z22, hb⟩ := ms3 hs ⟨trivial, trivial, by omega⟩ z21 z22 hb
 replace x_r := hx; clear hx hs
 have q_r := x_r.al
 skip
 refine bodyPost_ret (v := .tuple #[.agg #[.bool (ngB P2), .slice A21 n21 c21, .bool (ngB R2), .slice A22 n22 c22, .int .i64 (q : Int)], .int .i64 0, .int .i64 0]) (by simp [results, Tryz.results29, go_sem, q_r]) rfl ?_
 exact ⟨_, _, _, _, _, _, rfl, z21, z22, hb⟩
theorem EAt4 (h : Zr w b A n c X 8) (hT : Tab w) (a : Ar X e) {q : Nat} (hq : q < 216) :
  Calls Tryz.prog 29 #[.int .i64 4, .agg #[.bool b, .slice A n c, .int .i64 e], .int .i64 (q : Nat)] w (OuA w (rcL (vLo false (decide (X < 0)) (X.natAbs : Int) e (q + 40) ((q + 40) / 8 + 6)) q) (rcH (vHi false (decide (X < 0)) (X.natAbs : Int) e (q + 40) ((q + 40) / 8 + 6)) q) q (0)) := by
 have HW : 40 ≤ q + 40 ∧ q + 40 < 256 := by omega
 have hE : -4000 ≤ e ∧ e ≤ 4000 := ⟨by have := a.lo; omega, a.hi⟩
 obtain ⟨c1, c2⟩ := c_yes (X := X) hE
 have HN : Hid (od (cM X e) = X ∧ nE (cM X e) (cE e) = e) := Lib.hid (by rw [c1, c2]; exact a.n)
 have lo := a.lo
 have hs : Si X 8 := h.si
 have en := wave_en (co := false) (neg := decide (X < 0)) a HW
 have HCO := Lib.hid (fun w b A n c (h : Zr w b A n c X 8) (hT : Tab w) => Esin_any h hT a HW)
 have HTK := Lib.hid (fun w b A n c (h : Zr w b A n c X 8) => Etakes_any h a)
 obtain ⟨P, hP⟩ : ∃ P, vLo false (decide (X < 0)) (X.natAbs : Int) e (q + 40) ((q + 40) / 8 + 6) = P := ⟨_, rfl⟩
 obtain ⟨R, hR⟩ : ∃ R, vHi false (decide (X < 0)) (X.natAbs : Int) e (q + 40) ((q + 40) / 8 + 6) = R := ⟨_, rfl⟩
 rw [hP, hR] at HCO ⊢; rw [hP, hR] at en; clear hP hR
 have si := en.si hq
 have HEN := Lib.hid en.le
 have HRC : Hid ((flI P (-((q + 40 : Nat) : Int) + q) = rcL P q ∧ -flI (-R) (-((q + 40 : Nat) : Int) + q) = rcH R q) ∧ Si (rcL P q) 8 ∧ Si (rcH R q) 8) := Lib.hid ⟨⟨rfl, rfl⟩, si.2.2.2⟩
 have HS := Lib.hid hs; clear si en c1 c2 hE a hs
 generalize rcL P q = P2 at *; generalize rcH R q = R2 at *
 obtain ⟨W, hW⟩ : ∃ W, q + 40 = W := ⟨_, rfl⟩
 rw [hW] at HW HCO HRC; have HWQ : Hid ((q : Int) + 40 = (W : Int)) := Lib.hid (by omega); clear hW
 have m1 : ∀ w, (method 278 103 (.agg #[]) "hairline/elem.takes").run Tryz.prog w = .ok (110, .agg #[]) w := fun _ => by kernel_rfl
 have m2 : ∀ w, (method 278 103 (.agg #[]) "hairline/elem.enclose").run Tryz.prog w = .ok (168, .agg #[]) w := fun _ => by kernel_rfl
 go_enter Tryz.func29, Tryz.ntmps29
 go_wp2_with fail
 refine al2c fun v1 hb x_x x_r => ?_
 replace x_x := Dx.of x_x; replace x_r := Lx.of x_r
 obtain ⟨h, hT⟩ := mv2 hb h hT
 have q_x := x_x.al
 have q_r := x_r.al
 clear q_r
 skip
 with_reducible refine (Efun4).mono ?_
 rintro e v2 ⟨rfl, hb1⟩
 obtain ⟨x_x, x_r, h, hT, hb⟩ := mv5 hb1 x_x x_r h hT hb
 clear hb1
 replace q_x := x_x.al
 go_wp2_with fail
 with_reducible refine (HTK.out _ _ _ _ _ h).mono ?_
 rintro e v3 ⟨rfl, hb1⟩
 obtain ⟨x_x, x_r, h, hT, hb⟩ := mv5 hb1 x_x x_r h hT hb
 clear hb1
 replace q_x := x_x.al
 go_wp2_with fail
 with_reducible refine (DNorm_any h hT 9 (by omega) (by omega)).mono ?_
 rintro e v4 ⟨A5, n5, c5, rfl, z5, hb1⟩
 obtain ⟨x_x, x_r, h, hT, hb⟩ := mv5 hb1 x_x x_r h hT hb
 clear hb1
 replace q_x := x_x.al
 rw [HN.out.1, HN.out.2] at *; replace z5 := z5.slim HS.out
 have q_x := x_x.al
 go_wp2_with fail
 clear q_x
 refine x_x.stc fun v5 hs hx => ?_
 obtain ⟨x_r, hT, z5, hb⟩ := ms4 hs ⟨by omega, hT.neD x_x, trivial, by omega⟩ x_r hT z5 hb
 replace x_x := hx; clear hx hs
 have q_x := x_x.al
 go_wp2_with fail
 rw [HWQ.out]
 skip
 with_reducible refine (HCO.out _ _ _ _ _ z5.zr hT).mono ?_
 rintro e v6 ⟨A11, n11, c11, A12, n12, c12, rfl, z11, z12, hb1⟩
 obtain ⟨x_r, hT, z5, hb⟩ := mv4 hb1 x_r hT z5 hb
 clear hb1
 go_wp2_with fail
 have l_r_v := x_r.lt
 have e_v : w.heap.size ≤ v6.heap.size := hb.size
 refine al1c fun v7 hb1 x_v => ?_
 replace x_v := Nx.of x_v
 obtain ⟨x_r, z11, z12, hb⟩ := mv4 hb1 x_r z11 z12 hb
 clear hb1
 have q_v := x_v.al
 skip
 with_reducible refine (Recast_yes z11.zr z12.zr q ⟨by omega, by omega, HEN.out⟩ (by omega) 140 (by omega) (by omega) (by omega)).mono ?_
 rintro e v8 ⟨A21, n21, c21, A22, n22, c22, rfl, z21, z22, hb1⟩
 obtain ⟨x_r, z11, z12, hb⟩ := mv4 hb1 x_r z11 z12 hb
 clear hb1
 rw [HRC.out.1.1, HRC.out.1.2] at *; replace z21 := z21.slim HRC.out.2.1; replace z22 := z22.slim HRC.out.2.2
 go_upto_region 9 with fail
 have l_r_o := x_r.lt
 have e_o : w.heap.size ≤ v8.heap.size := hb.size
 refine al1 fun v9 hb1 x_o => ?_
 replace x_o := Lx.of x_o
 obtain ⟨x_r, z21, z22, hb⟩ := mv4 hb1 x_r z21 z22 hb
 clear hb1
 have q_o := x_o.al
 have q_r := x_r.al
 go_wp2
 clear q_r
 refine x_r.st fun v10 hs hx => ?_
 obtain ⟨z21, z22, hb⟩ := ms3 hs ⟨trivial, trivial, by omega⟩ z21 z22 hb
 replace x_r := hx; clear hx hs
 have q_r := x_r.al
 skip
 refine bodyPost_ret (v := .tuple #[.agg #[.bool (ngB P2), .slice A21 n21 c21, .bool (ngB R2), .slice A22 n22 c22, .int .i64 (q : Int)], .int .i64 0, .int .i64 0]) (by simp [results, Tryz.results29, go_sem, q_r]) rfl ?_
 exact ⟨_, _, _, _, _, _, rfl, z21, z22, hb⟩
theorem EAt5 (h : Zr w b A n c X 8) (hT : Tab w) (a : Ar X e) {q : Nat} (hq : q < 216) :
  Calls Tryz.prog 29 #[.int .i64 5, .agg #[.bool b, .slice A n c, .int .i64 e], .int .i64 (q : Nat)] w (OuA w (rcL (vLo true (decide (X < 0)) (X.natAbs : Int) e (q + 40) ((q + 40) / 8 + 6)) q) (rcH (vHi true (decide (X < 0)) (X.natAbs : Int) e (q + 40) ((q + 40) / 8 + 6)) q) q (0)) := by
 have HW : 40 ≤ q + 40 ∧ q + 40 < 256 := by omega
 have hE : -4000 ≤ e ∧ e ≤ 4000 := ⟨by have := a.lo; omega, a.hi⟩
 obtain ⟨c1, c2⟩ := c_yes (X := X) hE
 have HN : Hid (od (cM X e) = X ∧ nE (cM X e) (cE e) = e) := Lib.hid (by rw [c1, c2]; exact a.n)
 have lo := a.lo
 have hs : Si X 8 := h.si
 have en := wave_en (co := true) (neg := decide (X < 0)) a HW
 have HCO := Lib.hid (fun w b A n c (h : Zr w b A n c X 8) (hT : Tab w) => Ecos_any h hT a HW)
 have HTK := Lib.hid (fun w b A n c (h : Zr w b A n c X 8) => Etakes_any h a)
 obtain ⟨P, hP⟩ : ∃ P, vLo true (decide (X < 0)) (X.natAbs : Int) e (q + 40) ((q + 40) / 8 + 6) = P := ⟨_, rfl⟩
 obtain ⟨R, hR⟩ : ∃ R, vHi true (decide (X < 0)) (X.natAbs : Int) e (q + 40) ((q + 40) / 8 + 6) = R := ⟨_, rfl⟩
 rw [hP, hR] at HCO ⊢; rw [hP, hR] at en; clear hP hR
 have si := en.si hq
 have HEN := Lib.hid en.le
 have HRC : Hid ((flI P (-((q + 40 : Nat) : Int) + q) = rcL P q ∧ -flI (-R) (-((q + 40 : Nat) : Int) + q) = rcH R q) ∧ Si (rcL P q) 8 ∧ Si (rcH R q) 8) := Lib.hid ⟨⟨rfl, rfl⟩, si.2.2.2⟩
 have HS := Lib.hid hs; clear si en c1 c2 hE a hs
 generalize rcL P q = P2 at *; generalize rcH R q = R2 at *
 obtain ⟨W, hW⟩ : ∃ W, q + 40 = W := ⟨_, rfl⟩
 rw [hW] at HW HCO HRC; have HWQ : Hid ((q : Int) + 40 = (W : Int)) := Lib.hid (by omega); clear hW
 have m1 : ∀ w, (method 278 104 (.agg #[]) "hairline/elem.takes").run Tryz.prog w = .ok (110, .agg #[]) w := fun _ => by kernel_rfl
 have m2 : ∀ w, (method 278 104 (.agg #[]) "hairline/elem.enclose").run Tryz.prog w = .ok (180, .agg #[]) w := fun _ => by kernel_rfl
 go_enter Tryz.func29, Tryz.ntmps29
 go_wp2_with fail
 refine al2c fun v1 hb x_x x_r => ?_
 replace x_x := Dx.of x_x; replace x_r := Lx.of x_r
 obtain ⟨h, hT⟩ := mv2 hb h hT
 have q_x := x_x.al
 have q_r := x_r.al
 clear q_r
 skip
 with_reducible refine (Efun5).mono ?_
 rintro e v2 ⟨rfl, hb1⟩
 obtain ⟨x_x, x_r, h, hT, hb⟩ := mv5 hb1 x_x x_r h hT hb
 clear hb1
 replace q_x := x_x.al
 go_wp2_with fail
 with_reducible refine (HTK.out _ _ _ _ _ h).mono ?_
 rintro e v3 ⟨rfl, hb1⟩
 obtain ⟨x_x, x_r, h, hT, hb⟩ := mv5 hb1 x_x x_r h hT hb
 clear hb1
 replace q_x := x_x.al
 go_wp2_with fail
 with_reducible refine (DNorm_any h hT 9 (by omega) (by omega)).mono ?_
 rintro e v4 ⟨A5, n5, c5, rfl, z5, hb1⟩
 obtain ⟨x_x, x_r, h, hT, hb⟩ := mv5 hb1 x_x x_r h hT hb
 clear hb1
 replace q_x := x_x.al
 rw [HN.out.1, HN.out.2] at *; replace z5 := z5.slim HS.out
 have q_x := x_x.al
 go_wp2_with fail
 clear q_x
 refine x_x.stc fun v5 hs hx => ?_
 obtain ⟨x_r, hT, z5, hb⟩ := ms4 hs ⟨by omega, hT.neD x_x, trivial, by omega⟩ x_r hT z5 hb
 replace x_x := hx; clear hx hs
 have q_x := x_x.al
 go_wp2_with fail
 rw [HWQ.out]
 skip
 with_reducible refine (HCO.out _ _ _ _ _ z5.zr hT).mono ?_
 rintro e v6 ⟨A11, n11, c11, A12, n12, c12, rfl, z11, z12, hb1⟩
 obtain ⟨x_r, hT, z5, hb⟩ := mv4 hb1 x_r hT z5 hb
 clear hb1
 go_wp2_with fail
 have l_r_v := x_r.lt
 have e_v : w.heap.size ≤ v6.heap.size := hb.size
 refine al1c fun v7 hb1 x_v => ?_
 replace x_v := Nx.of x_v
 obtain ⟨x_r, z11, z12, hb⟩ := mv4 hb1 x_r z11 z12 hb
 clear hb1
 have q_v := x_v.al
 skip
 with_reducible refine (Recast_yes z11.zr z12.zr q ⟨by omega, by omega, HEN.out⟩ (by omega) 140 (by omega) (by omega) (by omega)).mono ?_
 rintro e v8 ⟨A21, n21, c21, A22, n22, c22, rfl, z21, z22, hb1⟩
 obtain ⟨x_r, z11, z12, hb⟩ := mv4 hb1 x_r z11 z12 hb
 clear hb1
 rw [HRC.out.1.1, HRC.out.1.2] at *; replace z21 := z21.slim HRC.out.2.1; replace z22 := z22.slim HRC.out.2.2
 go_upto_region 9 with fail
 have l_r_o := x_r.lt
 have e_o : w.heap.size ≤ v8.heap.size := hb.size
 refine al1 fun v9 hb1 x_o => ?_
 replace x_o := Lx.of x_o
 obtain ⟨x_r, z21, z22, hb⟩ := mv4 hb1 x_r z21 z22 hb
 clear hb1
 have q_o := x_o.al
 have q_r := x_r.al
 go_wp2
 clear q_r
 refine x_r.st fun v10 hs hx => ?_
 obtain ⟨z21, z22, hb⟩ := ms3 hs ⟨trivial, trivial, by omega⟩ z21 z22 hb
 replace x_r := hx; clear hx hs
 have q_r := x_r.al
 skip
 refine bodyPost_ret (v := .tuple #[.agg #[.bool (ngB P2), .slice A21 n21 c21, .bool (ngB R2), .slice A22 n22 c22, .int .i64 (q : Int)], .int .i64 0, .int .i64 0]) (by simp [results, Tryz.results29, go_sem, q_r]) rfl ?_
 exact ⟨_, _, _, _, _, _, rfl, z21, z22, hb⟩
end Go.Proofs.YtjlbngjeekdfcaaGreatDoor
