/-
 elem: Exp2.
-/
import Derived.Test.YtjlbngjeekdfcaaGreatDoorEnum4
import Derived.Test.YtjlbngjeekdfcaaGreatDoorKcos
import Derived.Shelf.Abstract
import Derived.Test.YtjlbngjeekdfcaaGreatDoorPg
import Derived.Deep.DeepCutAuto
namespace Go.Proofs.YtjlbngjeekdfcaaGreatDoor
set_option maxRecDepth 100000
set_option maxHeartbeats 4000000
set_option linter.unusedVariables false
open Go.RowKit
open MX (bLo bHi tA tZ xK xR xS yR yS uR uS gR gS hR hS wK wR wS vJ vKi vN vLo vHi nq Hd)
variable {b b2 b3 b4 : Bool} {A A2 A3 A4 : Option Addr} {n c n2 c2 n3 c3 n4 c4 j j2 : Nat} {X Y U V q e : Int} {w : World}
def OuE (w : World) (X Y q K : Int) (e : Ending) (w' : World) : Prop := ∃ A n c A2 n2 c2, e = .returned (.tuple #[.agg #[.bool (ngB X), .slice A n c, .bool (ngB Y), .slice A2 n2 c2, .int .i64 q], .int .i64 K]) ∧ Zn w' A n c X 8 ∧ Zn w' A2 n2 c2 Y 8 ∧ Below w.heap.size w w'
theorem entE_Exp : ∀ (args : Array Value) (w : World), (callFunc 125 args).run Tryz.prog w = .ok (.enter 125 args) w := enters_of Tryz.func125 (by kernel_rfl) rfl
theorem Eexponential_any (h : Zn w A n c X 8) (h2 : Zn w A2 n2 c2 Y 8) {W : Nat} (hW : 40 ≤ W ∧ W < 256) (hv : 0 ≤ X ∧ X ≤ Y ∧ Y ≤ twP W) (P R : Int) (hP : rwLo 0 X W (W / 4 + 10) = P ∧ rwHi 0 Y W (W / 4 + 10) = R) :
  Calls Tryz.prog 116 #[.agg #[.bool (ngB X), .slice A n c, .bool (ngB Y), .slice A2 n2 c2, .int .i64 (W : Nat)]] w (OuB w P R W 8) := by
 have HP : Hid ((rwLo 0 X W (W / 4 + 10) = P ∧ rwHi 0 Y W (W / 4 + 10) = R) ∧ Si P 8 ∧ Si R 8) := Lib.hid ⟨hP, by rw [← hP.1, ← hP.2]; exact ⟨(rw_sw (by omega) (by omega) hW.2 (by omega)).1, (rw_sw (by omega) (by omega) hW.2 (by omega)).2⟩⟩
 have HV : Hid ((0 ≤ X ∧ 2 * X ≤ 2 * twP W) ∧ (0 ≤ Y ∧ 2 * Y ≤ 2 * twP W)) := Lib.hid (by omega)
 clear hP hv
 go_enter Tryz.func116, Tryz.ntmps116
 go_wp2_with fail
 refine al2c fun v1 hb x_a x_r => ?_
 replace x_a := Nx.of x_a; replace x_r := Nx.of x_r
 obtain ⟨h, h2⟩ := mv2 hb h h2
 have q_a := x_a.al
 have q_r := x_r.al
 clear q_r
 go_wp2_with fail
 skip
 with_reducible refine (Ethrough_any entE_Exp h h2 (fun X => rwLo 0 X W (W / 4 + 10)) (fun X => rwHi 0 X W (W / 4 + 10)) (W / 4 + 10) _ (by omega) P R HP.out (fun w b A n c Z hZ k => KExp_yes k W (W / 4 + 10) (by omega) (by omega) (by have := HV.out; rcases hZ with rfl | rfl <;> omega) (by omega))).mono ?_
 rintro e v2 ⟨A5, n5, c5, A6, n6, c6, rfl, z5, z6, hb1⟩
 obtain ⟨x_r, h, h2, hb⟩ := mv4 hb1 x_r h h2 hb
 clear hb1
 have q_r := x_r.al
 go_wp2
 clear q_r
 refine x_r.st fun v3 hs hx => ?_
 obtain ⟨h, h2, z5, z6, hb⟩ := ms5 hs ⟨trivial, trivial, trivial, trivial, by omega⟩ h h2 z5 z6 hb
 replace x_r := hx; clear hx hs
 have q_r := x_r.al
 skip
 refine bodyPost_ret (v := .agg #[.bool (ngB P), .slice A5 n5 c5, .bool (ngB R), .slice A6 n6 c6, .int .i64 (W : Int)]) (by simp [results, Tryz.results116, go_sem, q_r]) rfl ?_
 exact ⟨_, _, _, _, _, _, rfl, z5, z6, hb⟩
theorem Eexp_any (h : Zr w b A n c X 8) (a : Ar X e) {W : Nat} (hW : 40 ≤ W ∧ W < 256) :
  Calls Tryz.prog 112 #[.agg #[], .agg #[.bool b, .slice A n c, .int .i64 e], .int .i64 (W : Nat)] w (OuE w (rwLo 0 (xR X e W) W (W / 4 + 10)) (rwHi 0 (xS X e W) W (W / 4 + 10)) W (xK X e W)) := by
 have HB := Lib.hid (a.bs hW.2)
 have hE : -4000 ≤ e ∧ e ≤ 4000 := by have := a.lo; have := a.hi; omega
 have hx := MX.xR_ok hW hE.1 a.b
 have hl := ln_k hW.1 hW.2 ⟨hx.2.2.2.1, hx.2.2.2.2.1⟩
 have ln := MX.ln_bd hW.2
 have hp := MX.tw_big hW.1
 have hd := MX.b_le (M := X) (e := e) (w := W)
 have HBO := Lib.hid (fun w (h : Zr w b A n c X 8) => EballOf_any h (by omega) hE W hW.2 HB.out)
 have HLN := Lib.hid (fun w => Eln2_any (w := w) W hW.2 (ln_si hW.2))
 have HS : Hid (Si (xR X e W) 8 ∧ Si (xS X e W) 8) := Lib.hid ⟨sw_si hW.2 (by omega) (by omega), sw_si hW.2 (by omega) (by omega)⟩
 rcases (show bLo X e W < 0 ∨ 0 ≤ bLo X e W by omega) with h0 | h0
 ·have HN : Hid (ngB (bLo X e W) = true) := Lib.hid (by unfold ngB; simp; omega)
  have HK : Hid (bLo X e W / lnA W = xK X e W ∧ 0 < lnA W) := Lib.hid ⟨by unfold xK; rw [if_neg (by omega)], by omega⟩
  obtain ⟨M1, hM1⟩ : ∃ m, lnA W * xK X e W = m := ⟨_, rfl⟩
  obtain ⟨M2, hM2⟩ : ∃ m, lnZ W * xK X e W = m := ⟨_, rfl⟩
  have HM : Hid ((min (lnA W * xK X e W) (lnZ W * xK X e W) = M2 ∧ max (lnA W * xK X e W) (lnZ W * xK X e W) = M1) ∧ Si M2 8 ∧ Si M1 8) := Lib.hid (by rw [← hM1, ← hM2]; exact ⟨hl.2.2.2 (by omega), hl.2.1, hl.1⟩)
  have hxR : bLo X e W - M1 = xR X e W := by rw [← hM1]; unfold xR; rw [if_neg (by omega), Int.mul_comm]
  have hxS : bHi X e W - M2 = xS X e W := by rw [← hM2]; unfold xS; rw [if_neg (by omega), Int.mul_comm]
  have hle : M2 ≤ M1 := by have := HM.out.1; omega
  have HR : Hid ((mn4 (fun x y => x - y) (bLo X e W) (bHi X e W) M2 M1 = xR X e W ∧ mx4 (fun x y => x - y) (bLo X e W) (bHi X e W) M2 M1 = xS X e W) ∧ Si (xR X e W) 8 ∧ Si (xS X e W) 8) := Lib.hid ⟨by simp only [mn4, mx4]; omega, HS.out⟩
  have HV : Hid (bLo X e W ≤ bHi X e W ∧ lnA W ≤ lnZ W ∧ M2 ≤ M1 ∧ (0 ≤ xR X e W ∧ xR X e W ≤ xS X e W ∧ xS X e W ≤ twP W) ∧ -1000000000 ≤ xK X e W ∧ xK X e W ≤ 1000000000) := Lib.hid ⟨hd.1, ln.2.2.1, hle, ⟨hx.1, hx.2.1, hx.2.2.1⟩, by omega, by omega⟩
  clear hx hl ln hp hd h0 hxR hxS hle a hM1 hM2
  generalize bLo X e W = P1 at *
  generalize bHi X e W = P2 at *
  generalize lnA W = L1 at *
  generalize lnZ W = L2 at *
  generalize xR X e W = R1 at *
  generalize xS X e W = R2 at *
  generalize xK X e W = K at *
  go_enter Tryz.func112, Tryz.ntmps112
  go_wp2_with fail
  refine al3c fun v1 hb _ x_d x_r => ?_
  replace x_d := Dx.of x_d; replace x_r := Nx.of x_r
  replace h := Mv.mv h hb
  have q_d := x_d.al
  have q_r := x_r.al
  clear q_r
  go_wp2_with fail
  skip
  with_reducible refine (HBO.out _ h).mono ?_
  rintro e v2 ⟨A5, n5, c5, A6, n6, c6, rfl, z5, z6, hb1⟩
  obtain ⟨x_r, h, hb⟩ := mv3 hb1 x_r h hb
  clear hb1
  rw [HN.out]
  go_wp2_with fail
  with_reducible refine (HLN.out _).mono ?_
  rintro e v3 ⟨A7, n7, c7, A8, n8, c8, rfl, z7, z8, hb1⟩
  obtain ⟨x_r, h, z5, z6, hb⟩ := mv5 hb1 x_r h z5 z6 hb
  clear hb1
  go_wp2_with fail
  have l_r_p := x_r.lt
  have e_p : w.heap.size ≤ v3.heap.size := hb.size
  refine al3c fun v4 hb1 x_p x_l x_k => ?_
  replace x_p := Nx.of x_p; replace x_l := Nx.of x_l; replace x_k := Bx.of x_k
  obtain ⟨x_r, h, z5, z6, z7, z8, hb⟩ := mv7 hb1 x_r h z5 z6 z7 z8 hb
  clear hb1
  have q_p := x_p.al
  have q_l := x_l.al
  have q_k := x_k.al
  skip
  with_reducible refine (Edown_any z5 z7 HN.out.symm HK.out.2 (by rw [HK.out.1]; exact HV.out.2.2.2.2)).mono ?_
  rintro e v5 ⟨rfl, hb1⟩
  obtain ⟨x_r, x_p, x_l, h, z5, z6, z7, z8, hb⟩ := mv9 hb1 x_r x_p x_l h z5 z6 z7 z8 hb
  clear hb1
  replace q_p := x_p.al
  replace q_l := x_l.al
  rw [HK.out.1]
  rw [← HN.out] at x_p
  replace q_p := x_p.al
  go_wp2_with fail
  have q_r := x_r.al
  go_region_held3 (fun w' => w'.cell? ⟨v3.heap.size, 0, none⟩ = some (.bool (ngB P1)) ∧ w'.cell? ⟨v3.heap.size, 1, none⟩ = some (.slice A5 n5 c5) ∧ w'.cell? ⟨v3.heap.size, 2, none⟩ = some (.bool (ngB P2)) ∧ w'.cell? ⟨v3.heap.size, 3, none⟩ = some (.slice A6 n6 c6) ∧ w'.cell? ⟨v3.heap.size, 4, none⟩ = some (.int .i64 (W : Int)) ∧ w'.cell? ⟨v3.heap.size + 1, 0, none⟩ = some (.bool (ngB L1)) ∧ w'.cell? ⟨v3.heap.size + 1, 1, none⟩ = some (.slice A7 n7 c7) ∧ w'.cell? ⟨v3.heap.size + 1, 2, none⟩ = some (.bool (ngB L2)) ∧ w'.cell? ⟨v3.heap.size + 1, 3, none⟩ = some (.slice A8 n8 c8) ∧ w'.cell? ⟨v3.heap.size + 1, 4, none⟩ = some (.int .i64 (W : Int)))
   (first | (with_reducible exact ⟨x_p.c0, x_p.c1, x_p.c2, x_p.c3, x_p.c4, x_l.c0, x_l.c1, x_l.c2, x_l.c3, x_l.c4⟩) | (with_reducible exact ⟨(x_p.asideN (by omega)).c0, (x_p.asideN (by omega)).c1, (x_p.asideN (by omega)).c2, (x_p.asideN (by omega)).c3, (x_p.asideN (by omega)).c4, (x_l.asideN (by omega)).c0, (x_l.asideN (by omega)).c1, (x_l.asideN (by omega)).c2, (x_l.asideN (by omega)).c3, (x_l.asideN (by omega)).c4⟩) | (with_reducible exact ⟨((x_p.asideN (by omega)).asideN (by omega)).c0, ((x_p.asideN (by omega)).asideN (by omega)).c1, ((x_p.asideN (by omega)).asideN (by omega)).c2, ((x_p.asideN (by omega)).asideN (by omega)).c3, ((x_p.asideN (by omega)).asideN (by omega)).c4, ((x_l.asideN (by omega)).asideN (by omega)).c0, ((x_l.asideN (by omega)).asideN (by omega)).c1, ((x_l.asideN (by omega)).asideN (by omega)).c2, ((x_l.asideN (by omega)).asideN (by omega)).c3, ((x_l.asideN (by omega)).asideN (by omega)).c4⟩) | go_keep)
   (first | (go_at_call 118; (with_reducible refine (Escaled_any z7.drw z8.drw ⟨by omega, by omega, HV.out.2.1⟩ K HV.out.2.2.2.2 M2 M1 HM.out).mono ?_); rintro e v6 ⟨A9, n9, c9, A10, n10, c10, rfl, z9, z10, hb1⟩; replace hb1 := undrew hb1; obtain ⟨x_r, x_p, x_l, h, z5, z6, z7, z8, hb⟩ := mv9 hb1 x_r x_p x_l h z5 z6 z7 z8 hb; clear hb1; replace q_r := x_r.al; replace q_p := x_p.al; replace q_l := x_l.al) | (go_at_call 117; (with_reducible refine (Eminus_any z5 z6 z9 z10 ⟨by omega, by omega, HV.out.1⟩ HV.out.2.2.1 R1 R2 HR.out).mono ?_); rintro e v7 ⟨A11, n11, c11, A12, n12, c12, rfl, z11, z12, hb1⟩; obtain ⟨x_r, x_p, x_l, h, z5, z6, z7, z8, z9⟩ := mv9 hb1 x_r x_p x_l h z5 z6 z7 z8 z9; obtain ⟨z10, hb⟩ := mv2 hb1 z10 hb; clear hb1; replace q_r := x_r.al; replace q_p := x_p.al; replace q_l := x_l.al) | (go_at_call 116; (with_reducible refine (Eexponential_any z11 z12 hW HV.out.2.2.2.1 _ _ ⟨rfl, rfl⟩).mono ?_); rintro e v8 ⟨A13, n13, c13, A14, n14, c14, rfl, z13, z14, hb1⟩; obtain ⟨x_r, x_p, x_l, h, z5, z6, z7, z8, z9⟩ := mv9 hb1 x_r x_p x_l h z5 z6 z7 z8 z9; obtain ⟨z10, z11, z12, hb⟩ := mv4 hb1 z10 z11 z12 hb; clear hb1; replace q_r := x_r.al; replace q_p := x_p.al; replace q_l := x_l.al))
  go_wp2
  clear q_r q_p q_l
  refine x_r.st fun v9 hs hx => ?_
  obtain ⟨x_p, x_l, h, z5, z6, z7, z8, z9, z10⟩ := ms9 hs ⟨by omega, by omega, trivial, trivial, trivial, trivial, trivial, trivial, trivial⟩ x_p x_l h z5 z6 z7 z8 z9 z10
  obtain ⟨z11, z12, z13, z14, hb⟩ := ms5 hs ⟨trivial, trivial, trivial, trivial, by omega⟩ z11 z12 z13 z14 hb
  replace x_r := hx; clear hx hs
  have q_r := x_r.al
  have q_p := x_p.al
  have q_l := x_l.al
  skip
  refine bodyPost_ret (v := .tuple #[.agg #[.bool (ngB (rwLo 0 R1 W (W / 4 + 10))), .slice A13 n13 c13, .bool (ngB (rwHi 0 R2 W (W / 4 + 10))), .slice A14 n14 c14, .int .i64 (W : Int)], .int .i64 K]) (by simp [results, Tryz.results112, go_sem, q_r]) rfl ?_
  exact ⟨_, _, _, _, _, _, rfl, z13, z14, hb⟩
 ·have HN : Hid (ngB (bLo X e W) = false) := Lib.hid (by unfold ngB; simp; omega)
  have HK : Hid (bLo X e W / lnZ W = xK X e W ∧ 0 < lnZ W) := Lib.hid ⟨by unfold xK; rw [if_pos (by omega)], by omega⟩
  obtain ⟨M1, hM1⟩ : ∃ m, lnA W * xK X e W = m := ⟨_, rfl⟩
  obtain ⟨M2, hM2⟩ : ∃ m, lnZ W * xK X e W = m := ⟨_, rfl⟩
  have HM : Hid ((min (lnA W * xK X e W) (lnZ W * xK X e W) = M1 ∧ max (lnA W * xK X e W) (lnZ W * xK X e W) = M2) ∧ Si M1 8 ∧ Si M2 8) := Lib.hid (by rw [← hM1, ← hM2]; exact ⟨hl.2.2.1 (by omega), hl.1, hl.2.1⟩)
  have hxR : bLo X e W - M2 = xR X e W := by rw [← hM2]; unfold xR; rw [if_pos (by omega), Int.mul_comm]
  have hxS : bHi X e W - M1 = xS X e W := by rw [← hM1]; unfold xS; rw [if_pos (by omega), Int.mul_comm]
  have hle : M1 ≤ M2 := by have := HM.out.1; omega
  have HR : Hid ((mn4 (fun x y => x - y) (bLo X e W) (bHi X e W) M1 M2 = xR X e W ∧ mx4 (fun x y => x - y) (bLo X e W) (bHi X e W) M1 M2 = xS X e W) ∧ Si (xR X e W) 8 ∧ Si (xS X e W) 8) := Lib.hid ⟨by simp only [mn4, mx4]; omega, HS.out⟩
  have HV : Hid (bLo X e W ≤ bHi X e W ∧ lnA W ≤ lnZ W ∧ M1 ≤ M2 ∧ (0 ≤ xR X e W ∧ xR X e W ≤ xS X e W ∧ xS X e W ≤ twP W) ∧ -1000000000 ≤ xK X e W ∧ xK X e W ≤ 1000000000) := Lib.hid ⟨hd.1, ln.2.2.1, hle, ⟨hx.1, hx.2.1, hx.2.2.1⟩, by omega, by omega⟩
  clear hx hl ln hp hd h0 hxR hxS hle a hM1 hM2
  generalize bLo X e W = P1 at *
  generalize bHi X e W = P2 at *
  generalize lnA W = L1 at *
  generalize lnZ W = L2 at *
  generalize xR X e W = R1 at *
  generalize xS X e W = R2 at *
  generalize xK X e W = K at *
  go_enter Tryz.func112, Tryz.ntmps112
  go_wp2_with fail
  refine al3c fun v1 hb _ x_d x_r => ?_
  replace x_d := Dx.of x_d; replace x_r := Nx.of x_r
  replace h := Mv.mv h hb
  have q_d := x_d.al
  have q_r := x_r.al
  clear q_r
  go_wp2_with fail
  skip
  with_reducible refine (HBO.out _ h).mono ?_
  rintro e v2 ⟨A5, n5, c5, A6, n6, c6, rfl, z5, z6, hb1⟩
  obtain ⟨x_r, h, hb⟩ := mv3 hb1 x_r h hb
  clear hb1
  rw [HN.out]
  go_wp2_with fail
  with_reducible refine (HLN.out _).mono ?_
  rintro e v3 ⟨A7, n7, c7, A8, n8, c8, rfl, z7, z8, hb1⟩
  obtain ⟨x_r, h, z5, z6, hb⟩ := mv5 hb1 x_r h z5 z6 hb
  clear hb1
  go_wp2_with fail
  have l_r_p := x_r.lt
  have e_p : w.heap.size ≤ v3.heap.size := hb.size
  refine al3c fun v4 hb1 x_p x_l x_k => ?_
  replace x_p := Nx.of x_p; replace x_l := Nx.of x_l; replace x_k := Bx.of x_k
  obtain ⟨x_r, h, z5, z6, z7, z8, hb⟩ := mv7 hb1 x_r h z5 z6 z7 z8 hb
  clear hb1
  have q_p := x_p.al
  have q_l := x_l.al
  have q_k := x_k.al
  skip
  with_reducible refine (Edown_any z5 z8 HN.out.symm HK.out.2 (by rw [HK.out.1]; exact HV.out.2.2.2.2)).mono ?_
  rintro e v5 ⟨rfl, hb1⟩
  obtain ⟨x_r, x_p, x_l, h, z5, z6, z7, z8, hb⟩ := mv9 hb1 x_r x_p x_l h z5 z6 z7 z8 hb
  clear hb1
  replace q_p := x_p.al
  replace q_l := x_l.al
  rw [HK.out.1]
  rw [← HN.out] at x_p
  replace q_p := x_p.al
  go_wp2_with fail
  have q_r := x_r.al
  go_region_held3 (fun w' => w'.cell? ⟨v3.heap.size, 0, none⟩ = some (.bool (ngB P1)) ∧ w'.cell? ⟨v3.heap.size, 1, none⟩ = some (.slice A5 n5 c5) ∧ w'.cell? ⟨v3.heap.size, 2, none⟩ = some (.bool (ngB P2)) ∧ w'.cell? ⟨v3.heap.size, 3, none⟩ = some (.slice A6 n6 c6) ∧ w'.cell? ⟨v3.heap.size, 4, none⟩ = some (.int .i64 (W : Int)) ∧ w'.cell? ⟨v3.heap.size + 1, 0, none⟩ = some (.bool (ngB L1)) ∧ w'.cell? ⟨v3.heap.size + 1, 1, none⟩ = some (.slice A7 n7 c7) ∧ w'.cell? ⟨v3.heap.size + 1, 2, none⟩ = some (.bool (ngB L2)) ∧ w'.cell? ⟨v3.heap.size + 1, 3, none⟩ = some (.slice A8 n8 c8) ∧ w'.cell? ⟨v3.heap.size + 1, 4, none⟩ = some (.int .i64 (W : Int)))
   (first | (with_reducible exact ⟨x_p.c0, x_p.c1, x_p.c2, x_p.c3, x_p.c4, x_l.c0, x_l.c1, x_l.c2, x_l.c3, x_l.c4⟩) | (with_reducible exact ⟨(x_p.asideN (by omega)).c0, (x_p.asideN (by omega)).c1, (x_p.asideN (by omega)).c2, (x_p.asideN (by omega)).c3, (x_p.asideN (by omega)).c4, (x_l.asideN (by omega)).c0, (x_l.asideN (by omega)).c1, (x_l.asideN (by omega)).c2, (x_l.asideN (by omega)).c3, (x_l.asideN (by omega)).c4⟩) | (with_reducible exact ⟨((x_p.asideN (by omega)).asideN (by omega)).c0, ((x_p.asideN (by omega)).asideN (by omega)).c1, ((x_p.asideN (by omega)).asideN (by omega)).c2, ((x_p.asideN (by omega)).asideN (by omega)).c3, ((x_p.asideN (by omega)).asideN (by omega)).c4, ((x_l.asideN (by omega)).asideN (by omega)).c0, ((x_l.asideN (by omega)).asideN (by omega)).c1, ((x_l.asideN (by omega)).asideN (by omega)).c2, ((x_l.asideN (by omega)).asideN (by omega)).c3, ((x_l.asideN (by omega)).asideN (by omega)).c4⟩) | go_keep)
   (first | (go_at_call 118; (with_reducible refine (Escaled_any z7.drw z8.drw ⟨by omega, by omega, HV.out.2.1⟩ K HV.out.2.2.2.2 M1 M2 HM.out).mono ?_); rintro e v6 ⟨A9, n9, c9, A10, n10, c10, rfl, z9, z10, hb1⟩; replace hb1 := undrew hb1; obtain ⟨x_r, x_p, x_l, h, z5, z6, z7, z8, hb⟩ := mv9 hb1 x_r x_p x_l h z5 z6 z7 z8 hb; clear hb1; replace q_r := x_r.al; replace q_p := x_p.al; replace q_l := x_l.al) | (go_at_call 117; (with_reducible refine (Eminus_any z5 z6 z9 z10 ⟨by omega, by omega, HV.out.1⟩ HV.out.2.2.1 R1 R2 HR.out).mono ?_); rintro e v7 ⟨A11, n11, c11, A12, n12, c12, rfl, z11, z12, hb1⟩; obtain ⟨x_r, x_p, x_l, h, z5, z6, z7, z8, z9⟩ := mv9 hb1 x_r x_p x_l h z5 z6 z7 z8 z9; obtain ⟨z10, hb⟩ := mv2 hb1 z10 hb; clear hb1; replace q_r := x_r.al; replace q_p := x_p.al; replace q_l := x_l.al) | (go_at_call 116; (with_reducible refine (Eexponential_any z11 z12 hW HV.out.2.2.2.1 _ _ ⟨rfl, rfl⟩).mono ?_); rintro e v8 ⟨A13, n13, c13, A14, n14, c14, rfl, z13, z14, hb1⟩; obtain ⟨x_r, x_p, x_l, h, z5, z6, z7, z8, z9⟩ := mv9 hb1 x_r x_p x_l h z5 z6 z7 z8 z9; obtain ⟨z10, z11, z12, hb⟩ := mv4 hb1 z10 z11 z12 hb; clear hb1; replace q_r := x_r.al; replace q_p := x_p.al; replace q_l := x_l.al))
  go_wp2
  clear q_r q_p q_l
  refine x_r.st fun v9 hs hx => ?_
  obtain ⟨x_p, x_l, h, z5, z6, z7, z8, z9, z10⟩ := ms9 hs ⟨by omega, by omega, trivial, trivial, trivial, trivial, trivial, trivial, trivial⟩ x_p x_l h z5 z6 z7 z8 z9 z10
  obtain ⟨z11, z12, z13, z14, hb⟩ := ms5 hs ⟨trivial, trivial, trivial, trivial, by omega⟩ z11 z12 z13 z14 hb
  replace x_r := hx; clear hx hs
  have q_r := x_r.al
  have q_p := x_p.al
  have q_l := x_l.al
  skip
  refine bodyPost_ret (v := .tuple #[.agg #[.bool (ngB (rwLo 0 R1 W (W / 4 + 10))), .slice A13 n13 c13, .bool (ngB (rwHi 0 R2 W (W / 4 + 10))), .slice A14 n14 c14, .int .i64 (W : Int)], .int .i64 K]) (by simp [results, Tryz.results112, go_sem, q_r]) rfl ?_
  exact ⟨_, _, _, _, _, _, rfl, z13, z14, hb⟩
end Go.Proofs.YtjlbngjeekdfcaaGreatDoor
namespace Go.Proofs.YtjlbngjeekdfcaaGreatDoor
variable {A : Option Addr} {X e : Int} {c k n : Nat} {v wx : World}
set_option maxRecDepth 100000
set_option maxHeartbeats 4000000
set_option linter.unusedVariables false
open Go.RowKit
open MX (bLo bHi tA tZ xK xR xS yR yS uR uS gR gS hR hS wK wR wS vJ vKi vN vLo vHi nq Hd)
def DxNew (v : World) (X e : Int) (k : Nat) (s : Value) (wx : World) : Prop :=
 ∃ g A n c, s = .pointer (some ⟨g, 0, none⟩) ∧ Dx wx g (ngB X) A n c e ∧ Zn wx A n c X k ∧ v.heap.size ≤ g ∧ Below v.heap.size v wx
theorem DxNew.put {g n0 c0 : Nat} {b0 : Bool} {A0 : Option Addr} {e0 : Int} (hv : Below v.heap.size v wx) (x : Dx wx g b0 A0 n0 c0 e0) (hg : v.heap.size ≤ g) (z : Zn wx A n c X k) :
  DxNew v X e k (.pointer (some ⟨g, 0, none⟩)) (((wx.setCell ⟨g, 0, none⟩ (.bool (ngB X))).setCell ⟨g, 1, none⟩ (.slice A n c)).setCell ⟨g, 2, none⟩ (.int .i64 e)) :=
 ⟨g, A, n, c, rfl, x.put _ _ _ _ _, z.putD x, hg, put_belowD hv hg _ _ _⟩
theorem DxNew.new (hv : Below v.heap.size v wx) (z : Zn wx A n c X k) :
  DxNew v X e k (.pointer (some ⟨wx.heap.size, 0, none⟩)) (wx.alloc (.cells #[.bool (ngB X), .slice A n c, .int .i64 e] 26)) :=
 ⟨wx.heap.size, A, n, c, rfl, Dx.new _ _ _ _ _ _, z.keep (below_alloc _ _), hv.size, bthen hv (below_alloc _ _)⟩
variable {b b2 b3 b4 : Bool} {A A2 A3 A4 : Option Addr} {n c n2 c2 n3 c3 n4 c4 j j2 : Nat} {X Y U V q e : Int} {w : World}
theorem Eexp2_any (h : Zr w b A n c X 8) (hT : Tab w) (hX : Si X 8) (a : Ar X e) {W : Nat} (hW : 40 ≤ W ∧ W < 256) :
  Calls Tryz.prog 156 #[.agg #[], .agg #[.bool b, .slice A n c, .int .i64 e], .int .i64 (W : Nat)] w (OuE w (rwLo 0 (yR (r2M X e) (r2E X e) W) W (W / 4 + 10)) (rwHi 0 (yS (r2M X e) (r2E X e) W) W (W / 4 + 10)) W (flI X e)) := by
 have hE : -4000 ≤ e ∧ e ≤ 4000 := by have := a.lo; have := a.hi; omega
 have hk := a.fl
 have r2 := a.r2 hX (by omega)
 have y := y_si hW r2.1.1 r2.2.2
 have ln := MX.ln_bd hW.2
 have HFL := Lib.hid (fun w (h : Zr w b A n c X 8) => Efloor_any h (by omega) hE (by omega))
 have HR : Hid (od (alP X e 0 - alQ (flI X e) e 0) = r2M X e ∧ nE (alP X e 0 - alQ (flI X e) e 0) (alE e 0) = r2E X e) := Lib.hid ⟨rfl, rfl⟩
 have HE := Lib.hid r2.1
 have hb := MX.b_le (M := r2M X e) (e := r2E X e) (w := W)
 have HM : Hid ((mn4 (fun x y => flI (x * y) (-(W : Int))) (bLo (r2M X e) (r2E X e) W) (bHi (r2M X e) (r2E X e) W) (lnA W) (lnZ W) = yR (r2M X e) (r2E X e) W ∧ mx4 (fun x y => -flI (-(x * y)) (-(W : Int))) (bLo (r2M X e) (r2E X e) W) (bHi (r2M X e) (r2E X e) W) (lnA W) (lnZ W) = yS (r2M X e) (r2E X e) W) ∧ Si (yR (r2M X e) (r2E X e) W) 8 ∧ Si (yS (r2M X e) (r2E X e) W) 8) := Lib.hid ⟨⟨rfl, rfl⟩, y.2.2⟩
 have HV : Hid ((bLo (r2M X e) (r2E X e) W ≤ bHi (r2M X e) (r2E X e) W ∧ lnA W ≤ lnZ W) ∧ (0 ≤ yR (r2M X e) (r2E X e) W ∧ yR (r2M X e) (r2E X e) W ≤ yS (r2M X e) (r2E X e) W ∧ yS (r2M X e) (r2E X e) W ≤ twP W) ∧ Si (bLo (r2M X e) (r2E X e) W) 8 ∧ Si (bHi (r2M X e) (r2E X e) W) 8) := Lib.hid ⟨⟨hb.1, ln.2.2.1⟩, y.2.1, y.1⟩
 have HLN := Lib.hid (fun w => Eln2_any (w := w) W hW.2 (ln_si hW.2))
 have HWH : Hid (-1000000000 ≤ flI X e ∧ flI X e ≤ 1000000000) := Lib.hid (by omega)
 clear r2 y ln hb hk hX a hE
 have HBO := Lib.hid (fun w A n c (h : Zn w A n c (r2M X e) 200) => EballOf_any h.zr (by omega) HE.out W hW.2 HV.out.2.2)
 generalize yR (r2M X e) (r2E X e) W = R1 at *
 generalize yS (r2M X e) (r2E X e) W = R2 at *
 generalize bLo (r2M X e) (r2E X e) W = P1 at *
 generalize bHi (r2M X e) (r2E X e) W = P2 at *
 generalize r2M X e = M at *
 generalize r2E X e = f at *
 generalize lnA W = L1 at *
 generalize lnZ W = L2 at *
 obtain ⟨K, hK⟩ : ∃ K, flI X e = K := ⟨_, rfl⟩
 rw [hK] at HFL HR HWH ⊢; clear hK
 go_enter Tryz.func156, Tryz.ntmps156
 go_wp2_with fail
 refine al3c fun v1 hb _ x_x x_r => ?_
 replace x_x := Dx.of x_x; replace x_r := Nx.of x_r
 obtain ⟨h, hT⟩ := mv2 hb h hT
 have q_x := x_x.al
 have q_r := x_r.al
 clear q_r
 skip
 with_reducible refine (HFL.out _ h).mono ?_
 rintro e v2 ⟨rfl, hb1⟩
 obtain ⟨x_x, x_r, h, hT, hb⟩ := mv5 hb1 x_x x_r h hT hb
 clear hb1
 replace q_x := x_x.al
 go_upto_region 2 with fail
 have hv := Below.refl v2.heap.size v2
 have l_x_d := x_x.lt
 have l_r_d := x_r.lt
 go_cut [9] (fun s9 wx => DxNew v2 M f 200 s9 wx)
 case first =>
  go_region_held3 (fun w' => w'.cell? ⟨w.heap.size + 1, 0, none⟩ = some (.bool b) ∧ w'.cell? ⟨w.heap.size + 1, 1, none⟩ = some (.slice A n c) ∧ w'.cell? ⟨w.heap.size + 1, 2, none⟩ = some (.int .i64 e))
   (first | (with_reducible exact ⟨x_x.c0, x_x.c1, x_x.c2⟩) | (with_reducible exact ⟨(x_x.alloc _).c0, (x_x.alloc _).c1, (x_x.alloc _).c2⟩) | (with_reducible exact ⟨(x_x.asideD (by omega)).c0, (x_x.asideD (by omega)).c1, (x_x.asideD (by omega)).c2⟩) | (with_reducible exact ⟨((x_x.alloc _).asideD (by omega)).c0, ((x_x.alloc _).asideD (by omega)).c1, ((x_x.alloc _).asideD (by omega)).c2⟩) | go_keep)
   (first | (go_at_call 127; (with_reducible refine (Ewhole_any K HWH.out).mono ?_); rintro e v3 ⟨A9, n9, c9, rfl, z9, hb1⟩; replace hb1 := undrew hb1; (try replace x_d := x_d.keep hb1); replace hv := bthen hv hb1; have hvs_v3 := hv.size; obtain ⟨x_x, x_r, h, hT, hb⟩ := mv5 hb1 x_x x_r h hT hb; clear hb1; replace q_x := x_x.al; (try (have q_d0 := x_d.c0; have q_d1 := x_d.c1; have q_d2 := x_d.c2; have f_d0 := x_d.fr 0; have f_d1 := x_d.fr 1; have f_d2 := x_d.fr 2))) | (go_at_call 127; (with_reducible refine (Ewhole_any K HWH.out).mono ?_); rintro e v3 ⟨A9, n9, c9, rfl, z9, hb1⟩; replace hb1 := undrew hb1; have x_d := (Dx.new v2 false none 0 0 0).keep hb1; replace hb1 := bthen (below_alloc v2 (.cells #[.bool false, .slice none 0 0, .int .i64 0] 26)) hb1; replace hv := bthen hv hb1; have hvs_v3 := hv.size; obtain ⟨x_x, x_r, h, hT, hb⟩ := mv5 hb1 x_x x_r h hT hb; clear hb1; replace q_x := x_x.al; (try (have q_d0 := x_d.c0; have q_d1 := x_d.c1; have q_d2 := x_d.c2; have f_d0 := x_d.fr 0; have f_d1 := x_d.fr 1; have f_d2 := x_d.fr 2))) | (go_at_call 158; (with_reducible refine (DSub_any h z9 hT 140 (by omega) (by omega) (by omega)).mono ?_); rintro e v4 ⟨A5, n5, c5, rfl, z5, hb1⟩; (try replace x_d := x_d.keep hb1); replace hv := bthen hv hb1; have hvs_v4 := hv.size; obtain ⟨x_x, x_r, h, hT, z9, hb⟩ := mv6 hb1 x_x x_r h hT z9 hb; clear hb1; replace q_x := x_x.al; rw [HR.out.1, HR.out.2] at *; (try (have q_d0 := x_d.c0; have q_d1 := x_d.c1; have q_d2 := x_d.c2; have f_d0 := x_d.fr 0; have f_d1 := x_d.fr 1; have f_d2 := x_d.fr 2))) | (go_at_call 158; (with_reducible refine (DSub_any (h.keep (below_alloc v3 (.cells #[.bool false, .slice none 0 0, .int .i64 0] 26))) (z9.keep (below_alloc v3 (.cells #[.bool false, .slice none 0 0, .int .i64 0] 26))) (hT.keep (below_alloc v3 (.cells #[.bool false, .slice none 0 0, .int .i64 0] 26))) 140 (by omega) (by omega) (by omega)).mono ?_); rintro e v4 ⟨A5, n5, c5, rfl, z5, hb1⟩; have x_d := (Dx.new v3 false none 0 0 0).keep hb1; replace hb1 := bthen (below_alloc v3 (.cells #[.bool false, .slice none 0 0, .int .i64 0] 26)) hb1; replace hv := bthen hv hb1; have hvs_v4 := hv.size; obtain ⟨x_x, x_r, h, hT, z9, hb⟩ := mv6 hb1 x_x x_r h hT z9 hb; clear hb1; replace q_x := x_x.al; rw [HR.out.1, HR.out.2] at *; (try (have q_d0 := x_d.c0; have q_d1 := x_d.c1; have q_d2 := x_d.c2; have f_d0 := x_d.fr 0; have f_d1 := x_d.fr 1; have f_d2 := x_d.fr 2))))
  all_goals go_wp2_with fail
  all_goals go_meet
  all_goals first | exact DxNew.new hv (z5.wide (by omega)) | exact DxNew.put hv x_d (by omega) (z5.wide (by omega))
 obtain ⟨g5, A6, n6, c6, rfl, x_d, z_d, e_d, hb1⟩ := hcut
 clear hv
 obtain ⟨x_x, x_r, h, hT, hb⟩ := mv5 hb1 x_x x_r h hT hb
 clear hb1
 replace q_x := x_x.al
 clear q_x
 generalize wc = v7 at *
 have q_x := x_x.al
 have q_d := x_d.al
 go_wp2_with fail
 skip
 with_reducible refine (HBO.out _ _ _ _ z_d).mono ?_
 rintro e v8 ⟨A11, n11, c11, A12, n12, c12, rfl, z11, z12, hb1⟩
 obtain ⟨x_r, x_d, z_d, hb⟩ := mv4 hb1 x_r x_d z_d hb
 clear hb1
 replace q_d := x_d.al
 go_wp2_with fail
 with_reducible refine (HLN.out _).mono ?_
 rintro e v9 ⟨A7, n7, c7, A8, n8, c8, rfl, z7, z8, hb1⟩
 obtain ⟨x_r, z11, z12, hb⟩ := mv4 hb1 x_r z11 z12 hb
 clear hb1
 go_wp2_with fail
 with_reducible refine (Etimes_any z11 z12 z7 z8 ⟨by omega, by omega, HV.out.1.1⟩ HV.out.1.2 R1 R2 HM.out).mono ?_
 rintro e v10 ⟨A13, n13, c13, A14, n14, c14, rfl, z13, z14, hb1⟩
 obtain ⟨x_r, z11, z12, z7, z8, hb⟩ := mv6 hb1 x_r z11 z12 z7 z8 hb
 clear hb1
 go_wp2_with fail
 with_reducible refine (Eexponential_any z13 z14 hW HV.out.2.1 _ _ ⟨rfl, rfl⟩).mono ?_
 rintro e v11 ⟨A15, n15, c15, A16, n16, c16, rfl, z15, z16, hb1⟩
 obtain ⟨x_r, z13, z14, hb⟩ := mv4 hb1 x_r z13 z14 hb
 clear hb1
 have q_r := x_r.al
 go_wp2
 clear q_r
 refine x_r.st fun v12 hs hx => ?_
 obtain ⟨z15, z16, hb⟩ := ms3 hs ⟨trivial, trivial, by omega⟩ z15 z16 hb
 replace x_r := hx; clear hx hs
 have q_r := x_r.al
 skip
 refine bodyPost_ret (v := .tuple #[.agg #[.bool (ngB (rwLo 0 R1 W (W / 4 + 10))), .slice A15 n15 c15, .bool (ngB (rwHi 0 R2 W (W / 4 + 10))), .slice A16 n16 c16, .int .i64 (W : Int)], .int .i64 K]) (by simp [results, Tryz.results156, go_sem, q_r]) rfl ?_
 exact ⟨_, _, _, _, _, _, rfl, z15, z16, hb⟩
end Go.Proofs.YtjlbngjeekdfcaaGreatDoor
