/-
 the document's answers for ball: Div.
-/
import Derived.Test.YtiigacddjihokaaGreatDoorLrsum
import Derived.Test.YtiigacddjihokaaGreatDoorLgath
import Derived.Test.YtiigacddjihokaaGreatDoorLrfloor
import Derived.Test.YtiigacddjihokaaGreatDoorLnew
import Derived.Test.YtiigacddjihokaaGreatDoorPd
namespace Go.Proofs.YtiigacddjihokaaGreatDoor
open Go.RowKit
set_option linter.unusedVariables false

theorem S2x.at_size {w : World} {N : Nat} {b b2 : Bool} {A A2 : Option Addr} {n c n2 c2 : Nat} (h : w.heap.size = N) : S2x (w.alloc (.cells #[.bool b, .slice A n c, .bool b2, .slice A2 n2 c2] 24)) N b A n c b2 A2 n2 c2 := by subst h; exact S2x.new w _ _ _ _ _ _ _ _
theorem sg_case {U V : Int} (h : ¬ (U ≤ 0 ∧ 0 ≤ V)) (hUV : U ≤ V) : (sgnI U = 1 ∧ 0 < U) ∨ (sgnI U = -1 ∧ sgnI V = -1 ∧ V < 0) := by
 rcases (show 0 < U ∨ (U < 0 ∧ V < 0) by omega) with h1 | ⟨h1, h2⟩
 ·exact .inl ⟨sgn_p h1, h1⟩
 ·exact .inr ⟨sgn_m h1, sgn_m h2, h2⟩

set_option maxRecDepth 100000 in
set_option maxHeartbeats 64000000 in
theorem RDiv_yes {b b2 b3 b4 : Bool} {A A2 A3 A4 : Option Addr} {n c n2 c2 n3 c3 n4 c4 : Nat} {X Y U V q : Int} {j j2 j3 j4 : Nat} {w : World} (h : Zr w b A n c X j) (h2 : Zr w b2 A2 n2 c2 Y j2) (h3 : Zr w b3 A3 n3 c3 U j3) (h4 : Zr w b4 A4 n4 c4 V j4) (hv : 0 ≤ q ∧ q ≤ 2048 ∧ X ≤ Y) (hv2 : U ≤ V) (h0 : ¬ (U ≤ 0 ∧ 0 ≤ V)) (hj : j ≤ 8) (hj2 : j2 ≤ 8) (hj3 : j3 ≤ 8) (hj4 : j4 ≤ 8) :
  Calls Tryz.prog 24 #[.agg #[.bool b, .slice A n c, .bool b2, .slice A2 n2 c2, .int .i64 q], .agg #[.bool b3, .slice A3 n3 c3, .bool b4, .slice A4 n4 c4, .int .i64 q]] w (OuL w (mn4 (fun x y => fdI (x * 2 ^ q.toNat) y) X Y U V) (mx4 (fun x y => cdI (x * 2 ^ q.toNat) y) X Y U V) q 150) := by
 have HM := Lib.hid (mtB_yes (r := q) ⟨hv, ⟨hv.1, hv.2.1, hv2⟩, rfl⟩)
 have hq : 0 ≤ q ∧ q ≤ 2048 := ⟨hv.1, hv.2.1⟩
 have hsc : sc q = q.toNat := sc_toNat hq.1 (by omega)
 have hU0 : U ≠ 0 := by omega
 have hV0 : V ≠ 0 := by omega
 have hsg := sg_case h0 hv2
 clear hv h0 hv2
 unfold mn4 mx4
 obtain ⟨SX, hSX⟩ : ∃ S, X * 2 ^ q.toNat = S := ⟨_, rfl⟩
 obtain ⟨SY, hSY⟩ : ∃ S, Y * 2 ^ q.toNat = S := ⟨_, rfl⟩
 simp only [hSX, hSY]
 have HSX : Hid (X * 2 ^ sc q = SX) := Lib.hid (by rw [hsc]; exact hSX)
 have HSY : Hid (Y * 2 ^ sc q = SY) := Lib.hid (by rw [hsc]; exact hSY)
 clear hSX hSY hsc
 obtain ⟨E0, hE0⟩ : ∃ E, fdI SX U = E := ⟨_, rfl⟩
 obtain ⟨G0, hG0⟩ : ∃ E, cdI SX U = E := ⟨_, rfl⟩
 obtain ⟨E1, hE1⟩ : ∃ E, fdI SX V = E := ⟨_, rfl⟩
 obtain ⟨G1, hG1⟩ : ∃ E, cdI SX V = E := ⟨_, rfl⟩
 obtain ⟨E2, hE2⟩ : ∃ E, fdI SY U = E := ⟨_, rfl⟩
 obtain ⟨G2, hG2⟩ : ∃ E, cdI SY U = E := ⟨_, rfl⟩
 obtain ⟨E3, hE3⟩ : ∃ E, fdI SY V = E := ⟨_, rfl⟩
 obtain ⟨G3, hG3⟩ : ∃ E, cdI SY V = E := ⟨_, rfl⟩
 simp only [hE0, hG0, hE1, hG1, hE2, hG2, hE3, hG3]
 have HE0 := Lib.hid hE0; have HG0 : Hid (upI SX U = G0) := Lib.hid ((up_cd hU0).trans hG0); clear hE0 hG0
 have HE1 := Lib.hid hE1; have HG1 : Hid (upI SX V = G1) := Lib.hid ((up_cd hV0).trans hG1); clear hE1 hG1
 have HE2 := Lib.hid hE2; have HG2 : Hid (upI SY U = G2) := Lib.hid ((up_cd hU0).trans hG2); clear hE2 hG2
 have HE3 := Lib.hid hE3; have HG3 : Hid (upI SY V = G3) := Lib.hid ((up_cd hV0).trans hG3); clear hE3 hG3
 obtain ⟨M, hM⟩ : ∃ M, min (min (min E0 E1) (E2)) (E3) = M := ⟨_, rfl⟩
 obtain ⟨N, hN⟩ : ∃ N, max (max (max G0 G1) (G2)) (G3) = N := ⟨_, rfl⟩
 rw [hM, hN]
 have HMn := Lib.hid hM; have HMx := Lib.hid hN; clear hM hN
 have HU0 := Lib.hid hU0; have HV0 := Lib.hid hV0; clear hU0 hV0
 have H1 := Lib.hid h; have H2 := Lib.hid h2; have H3 := Lib.hid h3; have H4 := Lib.hid h4
 go_enter Tryz.func24, Tryz.ntmps24
 go_wp2_with fail
 have x_a : Lx (w.alloc (.cells #[.bool b, .slice A n c, .bool b2, .slice A2 n2 c2, .int .i64 q] 26)) (w.heap.size) b A n c b2 A2 n2 c2 q := by have := Lx.new w b A n c b2 A2 n2 c2 q; simpa using this
 replace x_a := x_a.alloc (.cells #[.bool b3, .slice A3 n3 c3, .bool b4, .slice A4 n4 c4, .int .i64 q] 26)
 have x_d : Lx ((w.alloc (.cells #[.bool b, .slice A n c, .bool b2, .slice A2 n2 c2, .int .i64 q] 26)).alloc (.cells #[.bool b3, .slice A3 n3 c3, .bool b4, .slice A4 n4 c4, .int .i64 q] 26)) (w.heap.size + 1) b3 A3 n3 c3 b4 A4 n4 c4 q := by have := Lx.new (w.alloc (.cells #[.bool b, .slice A n c, .bool b2, .slice A2 n2 c2, .int .i64 q] 26)) b3 A3 n3 c3 b4 A4 n4 c4 q; simpa using this
 replace x_a := x_a.alloc (.cells #[.bool false, .slice none 0 0, .bool false, .slice none 0 0, .int .i64 0] 26)
 replace x_d := x_d.alloc (.cells #[.bool false, .slice none 0 0, .bool false, .slice none 0 0, .int .i64 0] 26)
 have x_r : Lx (((w.alloc (.cells #[.bool b, .slice A n c, .bool b2, .slice A2 n2 c2, .int .i64 q] 26)).alloc (.cells #[.bool b3, .slice A3 n3 c3, .bool b4, .slice A4 n4 c4, .int .i64 q] 26)).alloc (.cells #[.bool false, .slice none 0 0, .bool false, .slice none 0 0, .int .i64 0] 26)) (w.heap.size + 1 + 1) false none 0 0 false none 0 0 0 := by have := Lx.new ((w.alloc (.cells #[.bool b, .slice A n c, .bool b2, .slice A2 n2 c2, .int .i64 q] 26)).alloc (.cells #[.bool b3, .slice A3 n3 c3, .bool b4, .slice A4 n4 c4, .int .i64 q] 26)) false none 0 0 false none 0 0 0; simpa using this
 have hb : Below w.heap.size w (((w.alloc (.cells #[.bool b, .slice A n c, .bool b2, .slice A2 n2 c2, .int .i64 q] 26)).alloc (.cells #[.bool b3, .slice A3 n3 c3, .bool b4, .slice A4 n4 c4, .int .i64 q] 26)).alloc (.cells #[.bool false, .slice none 0 0, .bool false, .slice none 0 0, .int .i64 0] 26)) := (Below.alloc (Below.alloc (Below.alloc (Below.refl w.heap.size w) (by simp) (.cells #[.bool b, .slice A n c, .bool b2, .slice A2 n2 c2, .int .i64 q] 26)) (by simp) (.cells #[.bool b3, .slice A3 n3 c3, .bool b4, .slice A4 n4 c4, .int .i64 q] 26)) (by simp; omega) (.cells #[.bool false, .slice none 0 0, .bool false, .slice none 0 0, .int .i64 0] 26))
 generalize ((w.alloc (.cells #[.bool b, .slice A n c, .bool b2, .slice A2 n2 c2, .int .i64 q] 26)).alloc (.cells #[.bool b3, .slice A3 n3 c3, .bool b4, .slice A4 n4 c4, .int .i64 q] 26)).alloc (.cells #[.bool false, .slice none 0 0, .bool false, .slice none 0 0, .int .i64 0] 26) = v1 at *
 replace h := h.keep hb
 replace h2 := h2.keep hb
 replace h3 := h3.keep hb
 replace h4 := h4.keep hb
 obtain ⟨q_a0, f_a0, q_a1, f_a1, q_a2, f_a2, q_a3, f_a3, q_a4, f_a4⟩ := x_a.al
 obtain ⟨q_d0, f_d0, q_d1, f_d1, q_d2, f_d2, q_d3, f_d3, q_d4, f_d4⟩ := x_d.al
 obtain ⟨q_r0, f_r0, q_r1, f_r1, q_r2, f_r2, q_r3, f_r3, q_r4, f_r4⟩ := x_r.al
 go_wp2_with fail
 with_reducible refine (Rboth_any h h2 h3 h4 (by omega) (by omega) (by omega) (by omega)).mono ?_
 rintro e v2 ⟨rfl, hb1⟩
 replace x_a := x_a.keep hb1
 replace x_d := x_d.keep hb1
 replace x_r := x_r.keep hb1
 replace h := h.keep hb1
 replace h2 := h2.keep hb1
 replace h3 := h3.keep hb1
 replace h4 := h4.keep hb1
 replace hb := bthen hb hb1
 clear hb1
 clear q_a0 f_a0 q_a1 f_a1 q_a2 f_a2 q_a3 f_a3 q_a4 f_a4; obtain ⟨q_a0, f_a0, q_a1, f_a1, q_a2, f_a2, q_a3, f_a3, q_a4, f_a4⟩ := x_a.al
 clear q_d0 f_d0 q_d1 f_d1 q_d2 f_d2 q_d3 f_d3 q_d4 f_d4; obtain ⟨q_d0, f_d0, q_d1, f_d1, q_d2, f_d2, q_d3, f_d3, q_d4, f_d4⟩ := x_d.al
 clear q_r0 f_r0 q_r1 f_r1 q_r2 f_r2 q_r3 f_r3 q_r4 f_r4; obtain ⟨q_r0, f_r0, q_r1, f_r1, q_r2, f_r2, q_r3, f_r3, q_r4, f_r4⟩ := x_r.al
 rw [HM.out]
 go_upto_region 4 with fail
 have hv0 := Below.refl v2.heap.size v2
 go_cut [31] (fun s9 wx => s9 = .bool false ∧ Below v2.heap.size v2 wx)
 case first =>
  rcases hsg with ⟨sU, _⟩ | ⟨sU, sV, _⟩
  ·have HSU := Lib.hid sU; clear sU
   go_wp2_with fail
   with_reducible refine (RSignZ_any h3 (by omega)).mono ?_
   rintro e v3 ⟨rfl, hb1⟩
   replace hv0 := bthen hv0 hb1
   replace x_a := x_a.keep hb1
   replace x_d := x_d.keep hb1
   replace x_r := x_r.keep hb1
   replace h := h.keep hb1
   replace h2 := h2.keep hb1
   replace h3 := h3.keep hb1
   replace h4 := h4.keep hb1
   replace hb := bthen hb hb1
   clear hb1
   clear q_a0 f_a0 q_a1 f_a1 q_a2 f_a2 q_a3 f_a3 q_a4 f_a4; obtain ⟨q_a0, f_a0, q_a1, f_a1, q_a2, f_a2, q_a3, f_a3, q_a4, f_a4⟩ := x_a.al
   clear q_d0 f_d0 q_d1 f_d1 q_d2 f_d2 q_d3 f_d3 q_d4 f_d4; obtain ⟨q_d0, f_d0, q_d1, f_d1, q_d2, f_d2, q_d3, f_d3, q_d4, f_d4⟩ := x_d.al
   clear q_r0 f_r0 q_r1 f_r1 q_r2 f_r2 q_r3 f_r3 q_r4 f_r4; obtain ⟨q_r0, f_r0, q_r1, f_r1, q_r2, f_r2, q_r3, f_r3, q_r4, f_r4⟩ := x_r.al
   rw [HSU.out]
   go_wp2_with fail
   go_meet
   exact ⟨rfl, hv0⟩
  ·have HSU := Lib.hid sU; clear sU
   have HSV := Lib.hid sV; clear sV
   go_wp2_with fail
   with_reducible refine (RSignZ_any h3 (by omega)).mono ?_
   rintro e v3 ⟨rfl, hb1⟩
   replace hv0 := bthen hv0 hb1
   replace x_a := x_a.keep hb1
   replace x_d := x_d.keep hb1
   replace x_r := x_r.keep hb1
   replace h := h.keep hb1
   replace h2 := h2.keep hb1
   replace h3 := h3.keep hb1
   replace h4 := h4.keep hb1
   replace hb := bthen hb hb1
   clear hb1
   clear q_a0 f_a0 q_a1 f_a1 q_a2 f_a2 q_a3 f_a3 q_a4 f_a4; obtain ⟨q_a0, f_a0, q_a1, f_a1, q_a2, f_a2, q_a3, f_a3, q_a4, f_a4⟩ := x_a.al
   clear q_d0 f_d0 q_d1 f_d1 q_d2 f_d2 q_d3 f_d3 q_d4 f_d4; obtain ⟨q_d0, f_d0, q_d1, f_d1, q_d2, f_d2, q_d3, f_d3, q_d4, f_d4⟩ := x_d.al
   clear q_r0 f_r0 q_r1 f_r1 q_r2 f_r2 q_r3 f_r3 q_r4 f_r4; obtain ⟨q_r0, f_r0, q_r1, f_r1, q_r2, f_r2, q_r3, f_r3, q_r4, f_r4⟩ := x_r.al
   rw [HSU.out]
   go_wp2_with fail
   with_reducible refine (RSignZ_any h4 (by omega)).mono ?_
   rintro e v4 ⟨rfl, hb1⟩
   replace hv0 := bthen hv0 hb1
   replace x_a := x_a.keep hb1
   replace x_d := x_d.keep hb1
   replace x_r := x_r.keep hb1
   replace h := h.keep hb1
   replace h2 := h2.keep hb1
   replace h3 := h3.keep hb1
   replace h4 := h4.keep hb1
   replace hb := bthen hb hb1
   clear hb1
   clear q_a0 f_a0 q_a1 f_a1 q_a2 f_a2 q_a3 f_a3 q_a4 f_a4; obtain ⟨q_a0, f_a0, q_a1, f_a1, q_a2, f_a2, q_a3, f_a3, q_a4, f_a4⟩ := x_a.al
   clear q_d0 f_d0 q_d1 f_d1 q_d2 f_d2 q_d3 f_d3 q_d4 f_d4; obtain ⟨q_d0, f_d0, q_d1, f_d1, q_d2, f_d2, q_d3, f_d3, q_d4, f_d4⟩ := x_d.al
   clear q_r0 f_r0 q_r1 f_r1 q_r2 f_r2 q_r3 f_r3 q_r4 f_r4; obtain ⟨q_r0, f_r0, q_r1, f_r1, q_r2, f_r2, q_r3, f_r3, q_r4, f_r4⟩ := x_r.al
   rw [HSV.out]
   go_wp2_with fail
   go_meet
   exact ⟨rfl, hv0⟩
 obtain ⟨rfl, hb1⟩ := hcut
 clear hv0 hsg
 replace x_a := x_a.keep hb1
 replace x_d := x_d.keep hb1
 replace x_r := x_r.keep hb1
 replace h := h.keep hb1
 replace h2 := h2.keep hb1
 replace h3 := h3.keep hb1
 replace h4 := h4.keep hb1
 replace hb := bthen hb hb1
 clear hb1
 clear q_a0 f_a0 q_a1 f_a1 q_a2 f_a2 q_a3 f_a3 q_a4 f_a4; obtain ⟨q_a0, f_a0, q_a1, f_a1, q_a2, f_a2, q_a3, f_a3, q_a4, f_a4⟩ := x_a.al
 clear q_d0 f_d0 q_d1 f_d1 q_d2 f_d2 q_d3 f_d3 q_d4 f_d4; obtain ⟨q_d0, f_d0, q_d1, f_d1, q_d2, f_d2, q_d3, f_d3, q_d4, f_d4⟩ := x_d.al
 clear q_r0 f_r0 q_r1 f_r1 q_r2 f_r2 q_r3 f_r3 q_r4 f_r4; obtain ⟨q_r0, f_r0, q_r1, f_r1, q_r2, f_r2, q_r3, f_r3, q_r4, f_r4⟩ := x_r.al
 clear q_a0 f_a0 q_a1 f_a1 q_a2 f_a2 q_a3 f_a3 q_a4 f_a4 q_d0 f_d0 q_d1 f_d1 q_d2 f_d2 q_d3 f_d3 q_d4 f_d4 q_r0 f_r0 q_r1 f_r1 q_r2 f_r2 q_r3 f_r3 q_r4 f_r4
 generalize wc = vT at *
 obtain ⟨q_a0, f_a0, q_a1, f_a1, q_a2, f_a2, q_a3, f_a3, q_a4, f_a4⟩ := x_a.al
 obtain ⟨q_d0, f_d0, q_d1, f_d1, q_d2, f_d2, q_d3, f_d3, q_d4, f_d4⟩ := x_d.al
 obtain ⟨q_r0, f_r0, q_r1, f_r1, q_r2, f_r2, q_r3, f_r3, q_r4, f_r4⟩ := x_r.al
 have y_d := (x_d.alloc (.cells #[.bool b, .slice A n c, .bool b2, .slice A2 n2 c2] 24)).al
 obtain ⟨yq0, yf0, yq1, yf1, yq2, yf2, yq3, yf3, yq4, yf4⟩ := y_d
 go_wp2_with fail
 clear yq0 yf0 yq1 yf1 yq2 yf2 yq3 yf3 yq4 yf4
 have l_a_e := x_a.lt
 have l_d_e := x_d.lt
 have l_r_e := x_r.lt
 have e_e : w.heap.size ≤ vT.heap.size := hb.size
 have hb1 := below_alloc2 vT (.cells #[.bool b, .slice A n c, .bool b2, .slice A2 n2 c2] 24) (.cells #[.bool b3, .slice A3 n3 c3, .bool b4, .slice A4 n4 c4] 24)
 have x_e := (S2x.new vT b A n c b2 A2 n2 c2).alloc (.cells #[.bool b3, .slice A3 n3 c3, .bool b4, .slice A4 n4 c4] 24)
 have x_y : S2x ((vT.alloc (.cells #[.bool b, .slice A n c, .bool b2, .slice A2 n2 c2] 24)).alloc (.cells #[.bool b3, .slice A3 n3 c3, .bool b4, .slice A4 n4 c4] 24)) (vT.heap.size + 1) b3 A3 n3 c3 b4 A4 n4 c4 := S2x.at_size (alloc_size _ _)
 clear q_a0 f_a0 q_a1 f_a1 q_a2 f_a2 q_a3 f_a3 q_a4 f_a4 q_d0 f_d0 q_d1 f_d1 q_d2 f_d2 q_d3 f_d3 q_d4 f_d4 q_r0 f_r0 q_r1 f_r1 q_r2 f_r2 q_r3 f_r3 q_r4 f_r4
 replace x_a := x_a.keep hb1
 replace x_d := x_d.keep hb1
 replace x_r := x_r.keep hb1
 replace h := h.keep hb1
 replace h2 := h2.keep hb1
 replace h3 := h3.keep hb1
 replace h4 := h4.keep hb1
 replace hb := bthen hb hb1
 clear hb1
 generalize (vT.alloc (.cells #[.bool b, .slice A n c, .bool b2, .slice A2 n2 c2] 24)).alloc (.cells #[.bool b3, .slice A3 n3 c3, .bool b4, .slice A4 n4 c4] 24) = vS at *
 have gzL := Gz.nil vS (vT.heap.size + 2)
 have gzH := Gz.nil vS (vT.heap.size + 2)
 have hap : Ap (.slice none 0 0) (.slice none 0 0) := Ap.nil _
 clear x_d
 obtain ⟨q_a0, f_a0, q_a1, f_a1, q_a2, f_a2, q_a3, f_a3, q_a4, f_a4⟩ := x_a.al
 obtain ⟨q_e0, f_e0, q_e1, f_e1, q_e2, f_e2, q_e3, f_e3⟩ := x_e.al
 obtain ⟨q_y0, f_y0, q_y1, f_y1, q_y2, f_y2, q_y3, f_y3⟩ := x_y.al
 refine wp_loop_rounds 3 ?_
 rw [rounds_succ]
 go_wp2_with fail
 refine wp_loop_rounds 3 ?_
 rw [rounds_succ]
 have GL := Lib.hid gzL
 go_upto_region 16 with fail
 have hv := Below.refl vS.heap.size vS
 have l_a_x := x_a.lt
 have l_r_x := x_r.lt
 have l_e_x := x_e.lt
 have l_y_x := x_y.lt
 go_cut [13] (fun s9 wx => BnNew1 vS SX 136 s9 wx)
 case first =>
  go_region_held3 (fun w' => w'.cell? ⟨vT.heap.size, 0, none⟩ = some (.bool b) ∧ w'.cell? ⟨vT.heap.size, 1, none⟩ = some (.slice A n c) ∧ w'.cell? ⟨vT.heap.size, 2, none⟩ = some (.bool b2) ∧ w'.cell? ⟨vT.heap.size, 3, none⟩ = some (.slice A2 n2 c2) ∧ w'.cell? ⟨w.heap.size, 0, none⟩ = some (.bool b) ∧ w'.cell? ⟨w.heap.size, 1, none⟩ = some (.slice A n c) ∧ w'.cell? ⟨w.heap.size, 2, none⟩ = some (.bool b2) ∧ w'.cell? ⟨w.heap.size, 3, none⟩ = some (.slice A2 n2 c2) ∧ w'.cell? ⟨w.heap.size, 4, none⟩ = some (.int .i64 q))
   (first | (with_reducible exact ⟨x_e.c0, x_e.c1, x_e.c2, x_e.c3, x_a.c0, x_a.c1, x_a.c2, x_a.c3, x_a.c4⟩) | (with_reducible exact ⟨(x_e.alloc _).c0, (x_e.alloc _).c1, (x_e.alloc _).c2, (x_e.alloc _).c3, (x_a.alloc _).c0, (x_a.alloc _).c1, (x_a.alloc _).c2, (x_a.alloc _).c3, (x_a.alloc _).c4⟩) | (with_reducible exact ⟨(x_e.aside (by omega)).c0, (x_e.aside (by omega)).c1, (x_e.aside (by omega)).c2, (x_e.aside (by omega)).c3, (x_a.aside (by omega)).c0, (x_a.aside (by omega)).c1, (x_a.aside (by omega)).c2, (x_a.aside (by omega)).c3, (x_a.aside (by omega)).c4⟩) | (with_reducible exact ⟨((x_e.alloc _).aside (by omega)).c0, ((x_e.alloc _).aside (by omega)).c1, ((x_e.alloc _).aside (by omega)).c2, ((x_e.alloc _).aside (by omega)).c3, ((x_a.alloc _).aside (by omega)).c0, ((x_a.alloc _).aside (by omega)).c1, ((x_a.alloc _).aside (by omega)).c2, ((x_a.alloc _).aside (by omega)).c3, ((x_a.alloc _).aside (by omega)).c4⟩) | go_keep)
   (first | (go_at_call 71; (with_reducible refine (RShlZ_any h.drw q 136 (by omega) (by omega)).mono ?_); rintro e v21 ⟨A5, n5, c5, rfl, z5, hb1⟩; replace hb1 := undrew hb1; (try replace x_x := x_x.keep hb1); replace hv := bthen hv hb1; have hvs_v21 := hv.size; replace x_a := x_a.keep hb1; replace x_r := x_r.keep hb1; replace x_e := x_e.keep hb1; replace x_y := x_y.keep hb1; replace h := h.keep hb1; replace h2 := h2.keep hb1; replace h3 := h3.keep hb1; replace h4 := h4.keep hb1; replace gzL := gzL.keep hb1; replace gzH := gzH.keep hb1; replace hb := bthen hb hb1; clear hb1; clear q_a0 f_a0 q_a1 f_a1 q_a2 f_a2 q_a3 f_a3 q_a4 f_a4; obtain ⟨q_a0, f_a0, q_a1, f_a1, q_a2, f_a2, q_a3, f_a3, q_a4, f_a4⟩ := x_a.al; clear q_e0 f_e0 q_e1 f_e1 q_e2 f_e2 q_e3 f_e3; obtain ⟨q_e0, f_e0, q_e1, f_e1, q_e2, f_e2, q_e3, f_e3⟩ := x_e.al; clear q_y0 f_y0 q_y1 f_y1 q_y2 f_y2 q_y3 f_y3; obtain ⟨q_y0, f_y0, q_y1, f_y1, q_y2, f_y2, q_y3, f_y3⟩ := x_y.al; rw [HSX.out] at z5 ⊢; (try (obtain ⟨q_x0, f_x0, q_x1, f_x1⟩ := x_x.al))) | (go_at_call 71; (with_reducible refine (RShlZ_any (h.keep (below_alloc vS (.cells #[.bool false, .slice none 0 0] 24))).drw q 136 (by omega) (by omega)).mono ?_); rintro e v21 ⟨A5, n5, c5, rfl, z5, hb1⟩; replace hb1 := undrew hb1; have x_x := (Bx.new vS false none 0 0).keep hb1; replace hb1 := bthen (below_alloc vS (.cells #[.bool false, .slice none 0 0] 24)) hb1; replace hv := bthen hv hb1; have hvs_v21 := hv.size; replace x_a := x_a.keep hb1; replace x_r := x_r.keep hb1; replace x_e := x_e.keep hb1; replace x_y := x_y.keep hb1; replace h := h.keep hb1; replace h2 := h2.keep hb1; replace h3 := h3.keep hb1; replace h4 := h4.keep hb1; replace gzL := gzL.keep hb1; replace gzH := gzH.keep hb1; replace hb := bthen hb hb1; clear hb1; clear q_a0 f_a0 q_a1 f_a1 q_a2 f_a2 q_a3 f_a3 q_a4 f_a4; obtain ⟨q_a0, f_a0, q_a1, f_a1, q_a2, f_a2, q_a3, f_a3, q_a4, f_a4⟩ := x_a.al; clear q_e0 f_e0 q_e1 f_e1 q_e2 f_e2 q_e3 f_e3; obtain ⟨q_e0, f_e0, q_e1, f_e1, q_e2, f_e2, q_e3, f_e3⟩ := x_e.al; clear q_y0 f_y0 q_y1 f_y1 q_y2 f_y2 q_y3 f_y3; obtain ⟨q_y0, f_y0, q_y1, f_y1, q_y2, f_y2, q_y3, f_y3⟩ := x_y.al; rw [HSX.out] at z5 ⊢; (try (obtain ⟨q_x0, f_x0, q_x1, f_x1⟩ := x_x.al))))
  all_goals go_wp2_with fail
  all_goals go_meet
  all_goals first | (with_reducible exact BnNew1.new hv z5) | (with_reducible exact BnNew1.put hv x_x (by omega) z5)
 obtain ⟨g22, Ax23, nx23, cx23, rfl, x_x, z_x, e_x, hb1⟩ := hcut
 clear hv
 replace x_a := x_a.keep hb1
 replace x_r := x_r.keep hb1
 replace x_e := x_e.keep hb1
 replace x_y := x_y.keep hb1
 replace h := h.keep hb1
 replace h2 := h2.keep hb1
 replace h3 := h3.keep hb1
 replace h4 := h4.keep hb1
 replace gzL := gzL.keep hb1
 replace gzH := gzH.keep hb1
 replace hb := bthen hb hb1
 clear hb1
 clear q_a0 f_a0 q_a1 f_a1 q_a2 f_a2 q_a3 f_a3 q_a4 f_a4; obtain ⟨q_a0, f_a0, q_a1, f_a1, q_a2, f_a2, q_a3, f_a3, q_a4, f_a4⟩ := x_a.al
 clear q_e0 f_e0 q_e1 f_e1 q_e2 f_e2 q_e3 f_e3; obtain ⟨q_e0, f_e0, q_e1, f_e1, q_e2, f_e2, q_e3, f_e3⟩ := x_e.al
 clear q_y0 f_y0 q_y1 f_y1 q_y2 f_y2 q_y3 f_y3; obtain ⟨q_y0, f_y0, q_y1, f_y1, q_y2, f_y2, q_y3, f_y3⟩ := x_y.al
 clear q_a0 f_a0 q_a1 f_a1 q_a2 f_a2 q_a3 f_a3 q_a4 f_a4 q_e0 f_e0 q_e1 f_e1 q_e2 f_e2 q_e3 f_e3 q_y0 f_y0 q_y1 f_y1 q_y2 f_y2 q_y3 f_y3
 generalize wc = v24 at *
 obtain ⟨q_a0, f_a0, q_a1, f_a1, q_a2, f_a2, q_a3, f_a3, q_a4, f_a4⟩ := x_a.al
 obtain ⟨q_e0, f_e0, q_e1, f_e1, q_e2, f_e2, q_e3, f_e3⟩ := x_e.al
 obtain ⟨q_y0, f_y0, q_y1, f_y1, q_y2, f_y2, q_y3, f_y3⟩ := x_y.al
 obtain ⟨q_x0, f_x0, q_x1, f_x1⟩ := x_x.al
 have nx_L := GL.out.ne (.inr e_x)
 clear GL
 go_upto_region 17 with fail
 have hv := Below.refl v24.heap.size v24
 have ly_0 := x_y.lt
 go_cut [7] (fun s9 wx => ∃ t, t = s9 ∧ Pu v24 (vT.heap.size + 2) (.slice none 0 0) [] E0 t wx)
 case first =>
  clear q_a0 f_a0 q_a1 f_a1 q_a2 f_a2 q_a3 f_a3 q_a4 f_a4
  clear q_e0 f_e0 q_e1 f_e1 q_e2 f_e2 q_e3 f_e3
  go_region_held3 (fun w' => w'.cell? ⟨g22, 0, none⟩ = some (.bool (ngB SX)) ∧ w'.cell? ⟨g22, 1, none⟩ = some (.slice Ax23 nx23 cx23) ∧ w'.cell? ⟨vT.heap.size + 1, 0, none⟩ = some (.bool b3) ∧ w'.cell? ⟨vT.heap.size + 1, 1, none⟩ = some (.slice A3 n3 c3) ∧ w'.cell? ⟨vT.heap.size + 1, 2, none⟩ = some (.bool b4) ∧ w'.cell? ⟨vT.heap.size + 1, 3, none⟩ = some (.slice A4 n4 c4))
   (first | (with_reducible exact ⟨x_x.c0, x_x.c1, x_y.c0, x_y.c1, x_y.c2, x_y.c3⟩) | (with_reducible exact ⟨(x_x.alloc _).c0, (x_x.alloc _).c1, (x_y.alloc _).c0, (x_y.alloc _).c1, (x_y.alloc _).c2, (x_y.alloc _).c3⟩) | go_keep)
   (first | (go_at_call 72; (with_reducible refine (Rfl_any z_x.drw.zr h3.drw HU0.out (by omega) (by omega)).mono ?_); rintro e v25 ⟨A8, n8, c8, rfl, z8, hb1⟩; replace hb1 := undrew hb1; replace hv := hb1; replace x_y := x_y.keep hb1; replace x_x := x_x.keep hb1; replace h3 := h3.keep hb1; replace gzL := gzL.keep hb1; replace z_x := z_x.keep hb1; replace hb := bthen hb hb1; clear hb1; clear q_y0 f_y0 q_y1 f_y1 q_y2 f_y2 q_y3 f_y3; obtain ⟨q_y0, f_y0, q_y1, f_y1, q_y2, f_y2, q_y3, f_y3⟩ := x_y.al; clear q_x0 f_x0 q_x1 f_x1; obtain ⟨q_x0, f_x0, q_x1, f_x1⟩ := x_x.al; rw [HE0.out] at z8 ⊢; have hV := x_y.lt) | (refine step_pushG (V := v25) (by rfl) _ _ (by rfl) (by rfl) gzL (by simp) (by omega) z8 (by rfl) ?_; intro s8 w8 hpu; replace x_x := x_x.gr hpu.2.1 nx_L; replace x_y := x_y.gr hpu.2.1 (gzL.ne (.inl (by omega)))))
  all_goals go_wp2_with fail
  all_goals go_meet
  all_goals exact ⟨_, rfl, hpu.over hv⟩
 obtain ⟨sL1, rfl, gzN, hgr, hnw⟩ := hcut
 have hapN := (hap).nw gzH hnw
 replace gzH := gzH.gr hgr hap
 clear hap; have hap := hapN; clear hapN hnw
 replace x_a := x_a.gr hgr (gzL.ne (.inl (by omega)))
 replace x_r := x_r.gr hgr (gzL.ne (.inl (by omega)))
 replace x_e := x_e.gr hgr (gzL.ne (.inl (by omega)))
 replace x_y := x_y.gr hgr (gzL.ne (.inl (by omega)))
 replace x_x := x_x.gr hgr nx_L
 replace h := h.gr hgr
 replace h2 := h2.gr hgr
 replace h3 := h3.gr hgr
 replace h4 := h4.gr hgr
 replace z_x := z_x.gr hgr
 replace hb := Gr.below hb hb.size gzL hgr (by omega)
 clear gzL; have gzL := gzN; clear gzN hgr
 simp only [List.nil_append] at gzL
 clear q_a0 f_a0 q_a1 f_a1 q_a2 f_a2 q_a3 f_a3 q_a4 f_a4 q_e0 f_e0 q_e1 f_e1 q_e2 f_e2 q_e3 f_e3 q_y0 f_y0 q_y1 f_y1 q_y2 f_y2 q_y3 f_y3 q_x0 f_x0 q_x1 f_x1
 generalize wc = v26 at *
 obtain ⟨q_a0, f_a0, q_a1, f_a1, q_a2, f_a2, q_a3, f_a3, q_a4, f_a4⟩ := x_a.al
 obtain ⟨q_e0, f_e0, q_e1, f_e1, q_e2, f_e2, q_e3, f_e3⟩ := x_e.al
 obtain ⟨q_y0, f_y0, q_y1, f_y1, q_y2, f_y2, q_y3, f_y3⟩ := x_y.al
 obtain ⟨q_x0, f_x0, q_x1, f_x1⟩ := x_x.al
 clear hv nx_L
 go_upto_region 18 with fail
 have hv := Below.refl v26.heap.size v26
 have l_a_u := x_a.lt
 have l_r_u := x_r.lt
 have l_e_u := x_e.lt
 have l_y_u := x_y.lt
 have l_x_u := x_x.lt
 go_cut [14] (fun s9 wx => BnNew1 v26 G0 150 s9 wx)
 case first =>
  go_region_held3 (fun w' => w'.cell? ⟨g22, 0, none⟩ = some (.bool (ngB SX)) ∧ w'.cell? ⟨g22, 1, none⟩ = some (.slice Ax23 nx23 cx23) ∧ w'.cell? ⟨vT.heap.size + 1, 0, none⟩ = some (.bool b3) ∧ w'.cell? ⟨vT.heap.size + 1, 1, none⟩ = some (.slice A3 n3 c3) ∧ w'.cell? ⟨vT.heap.size + 1, 2, none⟩ = some (.bool b4) ∧ w'.cell? ⟨vT.heap.size + 1, 3, none⟩ = some (.slice A4 n4 c4))
   (first | (with_reducible exact ⟨x_x.c0, x_x.c1, x_y.c0, x_y.c1, x_y.c2, x_y.c3⟩) | (with_reducible exact ⟨(x_x.alloc _).c0, (x_x.alloc _).c1, (x_y.alloc _).c0, (x_y.alloc _).c1, (x_y.alloc _).c2, (x_y.alloc _).c3⟩) | (with_reducible exact ⟨(x_x.aside (by omega)).c0, (x_x.aside (by omega)).c1, (x_y.aside (by omega)).c0, (x_y.aside (by omega)).c1, (x_y.aside (by omega)).c2, (x_y.aside (by omega)).c3⟩) | (with_reducible exact ⟨((x_x.alloc _).aside (by omega)).c0, ((x_x.alloc _).aside (by omega)).c1, ((x_y.alloc _).aside (by omega)).c0, ((x_y.alloc _).aside (by omega)).c1, ((x_y.alloc _).aside (by omega)).c2, ((x_y.alloc _).aside (by omega)).c3⟩) | go_keep)
   (first | (go_at_call 73; (with_reducible refine (RUpZ_any z_x.drw.zr h3.drw HU0.out 146 (by omega) (by omega) (by omega)).mono ?_); rintro e v27 ⟨A6, n6, c6, rfl, z6, hb1⟩; replace hb1 := undrew hb1; (try replace x_u := x_u.keep hb1); replace hv := bthen hv hb1; have hvs_v27 := hv.size; replace x_a := x_a.keep hb1; replace x_r := x_r.keep hb1; replace x_e := x_e.keep hb1; replace x_y := x_y.keep hb1; replace x_x := x_x.keep hb1; replace h := h.keep hb1; replace h2 := h2.keep hb1; replace h3 := h3.keep hb1; replace h4 := h4.keep hb1; replace gzL := gzL.keep hb1; replace gzH := gzH.keep hb1; replace z_x := z_x.keep hb1; replace hb := bthen hb hb1; clear hb1; clear q_a0 f_a0 q_a1 f_a1 q_a2 f_a2 q_a3 f_a3 q_a4 f_a4; obtain ⟨q_a0, f_a0, q_a1, f_a1, q_a2, f_a2, q_a3, f_a3, q_a4, f_a4⟩ := x_a.al; clear q_e0 f_e0 q_e1 f_e1 q_e2 f_e2 q_e3 f_e3; obtain ⟨q_e0, f_e0, q_e1, f_e1, q_e2, f_e2, q_e3, f_e3⟩ := x_e.al; clear q_y0 f_y0 q_y1 f_y1 q_y2 f_y2 q_y3 f_y3; obtain ⟨q_y0, f_y0, q_y1, f_y1, q_y2, f_y2, q_y3, f_y3⟩ := x_y.al; clear q_x0 f_x0 q_x1 f_x1; obtain ⟨q_x0, f_x0, q_x1, f_x1⟩ := x_x.al; rw [HG0.out] at z6 ⊢; (try (obtain ⟨q_u0, f_u0, q_u1, f_u1⟩ := x_u.al))) | (go_at_call 73; (with_reducible refine (RUpZ_any (z_x.keep (below_alloc v26 (.cells #[.bool false, .slice none 0 0] 24))).drw.zr (h3.keep (below_alloc v26 (.cells #[.bool false, .slice none 0 0] 24))).drw HU0.out 146 (by omega) (by omega) (by omega)).mono ?_); rintro e v27 ⟨A6, n6, c6, rfl, z6, hb1⟩; replace hb1 := undrew hb1; have x_u := (Bx.new v26 false none 0 0).keep hb1; replace hb1 := bthen (below_alloc v26 (.cells #[.bool false, .slice none 0 0] 24)) hb1; replace hv := bthen hv hb1; have hvs_v27 := hv.size; replace x_a := x_a.keep hb1; replace x_r := x_r.keep hb1; replace x_e := x_e.keep hb1; replace x_y := x_y.keep hb1; replace x_x := x_x.keep hb1; replace h := h.keep hb1; replace h2 := h2.keep hb1; replace h3 := h3.keep hb1; replace h4 := h4.keep hb1; replace gzL := gzL.keep hb1; replace gzH := gzH.keep hb1; replace z_x := z_x.keep hb1; replace hb := bthen hb hb1; clear hb1; clear q_a0 f_a0 q_a1 f_a1 q_a2 f_a2 q_a3 f_a3 q_a4 f_a4; obtain ⟨q_a0, f_a0, q_a1, f_a1, q_a2, f_a2, q_a3, f_a3, q_a4, f_a4⟩ := x_a.al; clear q_e0 f_e0 q_e1 f_e1 q_e2 f_e2 q_e3 f_e3; obtain ⟨q_e0, f_e0, q_e1, f_e1, q_e2, f_e2, q_e3, f_e3⟩ := x_e.al; clear q_y0 f_y0 q_y1 f_y1 q_y2 f_y2 q_y3 f_y3; obtain ⟨q_y0, f_y0, q_y1, f_y1, q_y2, f_y2, q_y3, f_y3⟩ := x_y.al; clear q_x0 f_x0 q_x1 f_x1; obtain ⟨q_x0, f_x0, q_x1, f_x1⟩ := x_x.al; rw [HG0.out] at z6 ⊢; (try (obtain ⟨q_u0, f_u0, q_u1, f_u1⟩ := x_u.al))))
  all_goals go_wp2_with fail
  all_goals go_meet
  all_goals first | (with_reducible exact BnNew1.new hv z6) | (with_reducible exact BnNew1.put hv x_u (by omega) z6)
 obtain ⟨g28, Ax29, nx29, cx29, rfl, x_u, z_u, e_u, hb1⟩ := hcut
 clear hv
 replace x_a := x_a.keep hb1
 replace x_r := x_r.keep hb1
 replace x_e := x_e.keep hb1
 replace x_y := x_y.keep hb1
 replace x_x := x_x.keep hb1
 replace h := h.keep hb1
 replace h2 := h2.keep hb1
 replace h3 := h3.keep hb1
 replace h4 := h4.keep hb1
 replace gzL := gzL.keep hb1
 replace gzH := gzH.keep hb1
 replace z_x := z_x.keep hb1
 replace hb := bthen hb hb1
 clear hb1
 clear q_a0 f_a0 q_a1 f_a1 q_a2 f_a2 q_a3 f_a3 q_a4 f_a4; obtain ⟨q_a0, f_a0, q_a1, f_a1, q_a2, f_a2, q_a3, f_a3, q_a4, f_a4⟩ := x_a.al
 clear q_e0 f_e0 q_e1 f_e1 q_e2 f_e2 q_e3 f_e3; obtain ⟨q_e0, f_e0, q_e1, f_e1, q_e2, f_e2, q_e3, f_e3⟩ := x_e.al
 clear q_y0 f_y0 q_y1 f_y1 q_y2 f_y2 q_y3 f_y3; obtain ⟨q_y0, f_y0, q_y1, f_y1, q_y2, f_y2, q_y3, f_y3⟩ := x_y.al
 clear q_x0 f_x0 q_x1 f_x1; obtain ⟨q_x0, f_x0, q_x1, f_x1⟩ := x_x.al
 clear q_a0 f_a0 q_a1 f_a1 q_a2 f_a2 q_a3 f_a3 q_a4 f_a4 q_e0 f_e0 q_e1 f_e1 q_e2 f_e2 q_e3 f_e3 q_y0 f_y0 q_y1 f_y1 q_y2 f_y2 q_y3 f_y3 q_x0 f_x0 q_x1 f_x1
 generalize wc = v30 at *
 obtain ⟨q_a0, f_a0, q_a1, f_a1, q_a2, f_a2, q_a3, f_a3, q_a4, f_a4⟩ := x_a.al
 obtain ⟨q_e0, f_e0, q_e1, f_e1, q_e2, f_e2, q_e3, f_e3⟩ := x_e.al
 obtain ⟨q_y0, f_y0, q_y1, f_y1, q_y2, f_y2, q_y3, f_y3⟩ := x_y.al
 obtain ⟨q_x0, f_x0, q_x1, f_x1⟩ := x_x.al
 obtain ⟨q_u0, f_u0, q_u1, f_u1⟩ := x_u.al
 clear q_x0 f_x0 q_x1 f_x1
 clear q_y0 f_y0 q_y1 f_y1 q_y2 f_y2 q_y3 f_y3
 clear q_e0 f_e0 q_e1 f_e1 q_e2 f_e2 q_e3 f_e3
 clear q_a0 f_a0 q_a1 f_a1 q_a2 f_a2 q_a3 f_a3 q_a4 f_a4
 have ly_0 := x_y.lt
 go_wp2_with (at_builtin; refine wp_pushG (V := v30) rfl (.tmp 76) (.tmp 78) rfl rfl gzH (by simp) (by omega) z_u rfl ?_; intro sH1 v31 hcut)
 clear x_x z_x x_u z_u q_u0 f_u0 q_u1 f_u1
 have gzN := hcut.1; have hgr := hcut.2.1; have hnw := hcut.2.2; clear hcut
 have hapN := (hap.symm).nw gzL hnw
 replace gzL := gzL.gr hgr hap.symm
 clear hap; have hap := hapN.symm; clear hapN hnw
 replace x_a := x_a.gr hgr (gzH.ne (.inl (by omega)))
 replace x_r := x_r.gr hgr (gzH.ne (.inl (by omega)))
 replace x_e := x_e.gr hgr (gzH.ne (.inl (by omega)))
 replace x_y := x_y.gr hgr (gzH.ne (.inl (by omega)))
 replace h := h.gr hgr
 replace h2 := h2.gr hgr
 replace h3 := h3.gr hgr
 replace h4 := h4.gr hgr
 replace hb := Gr.below hb hb.size gzH hgr (by omega)
 clear gzH; have gzH := gzN; clear gzN hgr
 simp only [List.nil_append] at gzH
 obtain ⟨q_a0, f_a0, q_a1, f_a1, q_a2, f_a2, q_a3, f_a3, q_a4, f_a4⟩ := x_a.al
 obtain ⟨q_e0, f_e0, q_e1, f_e1, q_e2, f_e2, q_e3, f_e3⟩ := x_e.al
 obtain ⟨q_y0, f_y0, q_y1, f_y1, q_y2, f_y2, q_y3, f_y3⟩ := x_y.al
 rw [rounds_succ]
 have GL := Lib.hid gzL
 go_upto_region 16 with fail
 have hv := Below.refl v31.heap.size v31
 have l_a_x := x_a.lt
 have l_r_x := x_r.lt
 have l_e_x := x_e.lt
 have l_y_x := x_y.lt
 go_cut [13] (fun s9 wx => BnNew1 v31 SX 136 s9 wx)
 case first =>
  go_region_held3 (fun w' => w'.cell? ⟨vT.heap.size, 0, none⟩ = some (.bool b) ∧ w'.cell? ⟨vT.heap.size, 1, none⟩ = some (.slice A n c) ∧ w'.cell? ⟨vT.heap.size, 2, none⟩ = some (.bool b2) ∧ w'.cell? ⟨vT.heap.size, 3, none⟩ = some (.slice A2 n2 c2) ∧ w'.cell? ⟨w.heap.size, 0, none⟩ = some (.bool b) ∧ w'.cell? ⟨w.heap.size, 1, none⟩ = some (.slice A n c) ∧ w'.cell? ⟨w.heap.size, 2, none⟩ = some (.bool b2) ∧ w'.cell? ⟨w.heap.size, 3, none⟩ = some (.slice A2 n2 c2) ∧ w'.cell? ⟨w.heap.size, 4, none⟩ = some (.int .i64 q))
   (first | (with_reducible exact ⟨x_e.c0, x_e.c1, x_e.c2, x_e.c3, x_a.c0, x_a.c1, x_a.c2, x_a.c3, x_a.c4⟩) | (with_reducible exact ⟨(x_e.alloc _).c0, (x_e.alloc _).c1, (x_e.alloc _).c2, (x_e.alloc _).c3, (x_a.alloc _).c0, (x_a.alloc _).c1, (x_a.alloc _).c2, (x_a.alloc _).c3, (x_a.alloc _).c4⟩) | (with_reducible exact ⟨(x_e.aside (by omega)).c0, (x_e.aside (by omega)).c1, (x_e.aside (by omega)).c2, (x_e.aside (by omega)).c3, (x_a.aside (by omega)).c0, (x_a.aside (by omega)).c1, (x_a.aside (by omega)).c2, (x_a.aside (by omega)).c3, (x_a.aside (by omega)).c4⟩) | (with_reducible exact ⟨((x_e.alloc _).aside (by omega)).c0, ((x_e.alloc _).aside (by omega)).c1, ((x_e.alloc _).aside (by omega)).c2, ((x_e.alloc _).aside (by omega)).c3, ((x_a.alloc _).aside (by omega)).c0, ((x_a.alloc _).aside (by omega)).c1, ((x_a.alloc _).aside (by omega)).c2, ((x_a.alloc _).aside (by omega)).c3, ((x_a.alloc _).aside (by omega)).c4⟩) | go_keep)
   (first | (go_at_call 71; (with_reducible refine (RShlZ_any h.drw q 136 (by omega) (by omega)).mono ?_); rintro e v32 ⟨A5, n5, c5, rfl, z5, hb1⟩; replace hb1 := undrew hb1; (try replace x_x := x_x.keep hb1); replace hv := bthen hv hb1; have hvs_v32 := hv.size; replace x_a := x_a.keep hb1; replace x_r := x_r.keep hb1; replace x_e := x_e.keep hb1; replace x_y := x_y.keep hb1; replace h := h.keep hb1; replace h2 := h2.keep hb1; replace h3 := h3.keep hb1; replace h4 := h4.keep hb1; replace gzL := gzL.keep hb1; replace gzH := gzH.keep hb1; replace hb := bthen hb hb1; clear hb1; clear q_a0 f_a0 q_a1 f_a1 q_a2 f_a2 q_a3 f_a3 q_a4 f_a4; obtain ⟨q_a0, f_a0, q_a1, f_a1, q_a2, f_a2, q_a3, f_a3, q_a4, f_a4⟩ := x_a.al; clear q_e0 f_e0 q_e1 f_e1 q_e2 f_e2 q_e3 f_e3; obtain ⟨q_e0, f_e0, q_e1, f_e1, q_e2, f_e2, q_e3, f_e3⟩ := x_e.al; clear q_y0 f_y0 q_y1 f_y1 q_y2 f_y2 q_y3 f_y3; obtain ⟨q_y0, f_y0, q_y1, f_y1, q_y2, f_y2, q_y3, f_y3⟩ := x_y.al; rw [HSX.out] at z5 ⊢; (try (obtain ⟨q_x0, f_x0, q_x1, f_x1⟩ := x_x.al))) | (go_at_call 71; (with_reducible refine (RShlZ_any (h.keep (below_alloc v31 (.cells #[.bool false, .slice none 0 0] 24))).drw q 136 (by omega) (by omega)).mono ?_); rintro e v32 ⟨A5, n5, c5, rfl, z5, hb1⟩; replace hb1 := undrew hb1; have x_x := (Bx.new v31 false none 0 0).keep hb1; replace hb1 := bthen (below_alloc v31 (.cells #[.bool false, .slice none 0 0] 24)) hb1; replace hv := bthen hv hb1; have hvs_v32 := hv.size; replace x_a := x_a.keep hb1; replace x_r := x_r.keep hb1; replace x_e := x_e.keep hb1; replace x_y := x_y.keep hb1; replace h := h.keep hb1; replace h2 := h2.keep hb1; replace h3 := h3.keep hb1; replace h4 := h4.keep hb1; replace gzL := gzL.keep hb1; replace gzH := gzH.keep hb1; replace hb := bthen hb hb1; clear hb1; clear q_a0 f_a0 q_a1 f_a1 q_a2 f_a2 q_a3 f_a3 q_a4 f_a4; obtain ⟨q_a0, f_a0, q_a1, f_a1, q_a2, f_a2, q_a3, f_a3, q_a4, f_a4⟩ := x_a.al; clear q_e0 f_e0 q_e1 f_e1 q_e2 f_e2 q_e3 f_e3; obtain ⟨q_e0, f_e0, q_e1, f_e1, q_e2, f_e2, q_e3, f_e3⟩ := x_e.al; clear q_y0 f_y0 q_y1 f_y1 q_y2 f_y2 q_y3 f_y3; obtain ⟨q_y0, f_y0, q_y1, f_y1, q_y2, f_y2, q_y3, f_y3⟩ := x_y.al; rw [HSX.out] at z5 ⊢; (try (obtain ⟨q_x0, f_x0, q_x1, f_x1⟩ := x_x.al))))
  all_goals go_wp2_with fail
  all_goals go_meet
  all_goals first | (with_reducible exact BnNew1.new hv z5) | (with_reducible exact BnNew1.put hv x_x (by omega) z5)
 obtain ⟨g33, Ax34, nx34, cx34, rfl, x_x, z_x, e_x, hb1⟩ := hcut
 clear hv
 replace x_a := x_a.keep hb1
 replace x_r := x_r.keep hb1
 replace x_e := x_e.keep hb1
 replace x_y := x_y.keep hb1
 replace h := h.keep hb1
 replace h2 := h2.keep hb1
 replace h3 := h3.keep hb1
 replace h4 := h4.keep hb1
 replace gzL := gzL.keep hb1
 replace gzH := gzH.keep hb1
 replace hb := bthen hb hb1
 clear hb1
 clear q_a0 f_a0 q_a1 f_a1 q_a2 f_a2 q_a3 f_a3 q_a4 f_a4; obtain ⟨q_a0, f_a0, q_a1, f_a1, q_a2, f_a2, q_a3, f_a3, q_a4, f_a4⟩ := x_a.al
 clear q_e0 f_e0 q_e1 f_e1 q_e2 f_e2 q_e3 f_e3; obtain ⟨q_e0, f_e0, q_e1, f_e1, q_e2, f_e2, q_e3, f_e3⟩ := x_e.al
 clear q_y0 f_y0 q_y1 f_y1 q_y2 f_y2 q_y3 f_y3; obtain ⟨q_y0, f_y0, q_y1, f_y1, q_y2, f_y2, q_y3, f_y3⟩ := x_y.al
 clear q_a0 f_a0 q_a1 f_a1 q_a2 f_a2 q_a3 f_a3 q_a4 f_a4 q_e0 f_e0 q_e1 f_e1 q_e2 f_e2 q_e3 f_e3 q_y0 f_y0 q_y1 f_y1 q_y2 f_y2 q_y3 f_y3
 generalize wc = v35 at *
 obtain ⟨q_a0, f_a0, q_a1, f_a1, q_a2, f_a2, q_a3, f_a3, q_a4, f_a4⟩ := x_a.al
 obtain ⟨q_e0, f_e0, q_e1, f_e1, q_e2, f_e2, q_e3, f_e3⟩ := x_e.al
 obtain ⟨q_y0, f_y0, q_y1, f_y1, q_y2, f_y2, q_y3, f_y3⟩ := x_y.al
 obtain ⟨q_x0, f_x0, q_x1, f_x1⟩ := x_x.al
 have nx_L := GL.out.ne (.inr e_x)
 clear GL
 go_upto_region 17 with fail
 have hv := Below.refl v35.heap.size v35
 have ly_1 := x_y.lt
 go_cut [7] (fun s9 wx => ∃ t, t = s9 ∧ Pu v35 (vT.heap.size + 2) sL1 [E0] E1 t wx)
 case first =>
  clear q_a0 f_a0 q_a1 f_a1 q_a2 f_a2 q_a3 f_a3 q_a4 f_a4
  clear q_e0 f_e0 q_e1 f_e1 q_e2 f_e2 q_e3 f_e3
  go_region_held3 (fun w' => w'.cell? ⟨g33, 0, none⟩ = some (.bool (ngB SX)) ∧ w'.cell? ⟨g33, 1, none⟩ = some (.slice Ax34 nx34 cx34) ∧ w'.cell? ⟨vT.heap.size + 1, 0, none⟩ = some (.bool b3) ∧ w'.cell? ⟨vT.heap.size + 1, 1, none⟩ = some (.slice A3 n3 c3) ∧ w'.cell? ⟨vT.heap.size + 1, 2, none⟩ = some (.bool b4) ∧ w'.cell? ⟨vT.heap.size + 1, 3, none⟩ = some (.slice A4 n4 c4))
   (first | (with_reducible exact ⟨x_x.c0, x_x.c1, x_y.c0, x_y.c1, x_y.c2, x_y.c3⟩) | (with_reducible exact ⟨(x_x.alloc _).c0, (x_x.alloc _).c1, (x_y.alloc _).c0, (x_y.alloc _).c1, (x_y.alloc _).c2, (x_y.alloc _).c3⟩) | go_keep)
   (first | (go_at_call 72; (with_reducible refine (Rfl_any z_x.drw.zr h4.drw HV0.out (by omega) (by omega)).mono ?_); rintro e v36 ⟨A8, n8, c8, rfl, z8, hb1⟩; replace hb1 := undrew hb1; replace hv := hb1; replace x_y := x_y.keep hb1; replace x_x := x_x.keep hb1; replace h4 := h4.keep hb1; replace gzL := gzL.keep hb1; replace z_x := z_x.keep hb1; replace hb := bthen hb hb1; clear hb1; clear q_y0 f_y0 q_y1 f_y1 q_y2 f_y2 q_y3 f_y3; obtain ⟨q_y0, f_y0, q_y1, f_y1, q_y2, f_y2, q_y3, f_y3⟩ := x_y.al; clear q_x0 f_x0 q_x1 f_x1; obtain ⟨q_x0, f_x0, q_x1, f_x1⟩ := x_x.al; rw [HE1.out] at z8 ⊢; have hV := x_y.lt) | (refine step_pushG (V := v36) (by rfl) _ _ (by rfl) (by rfl) gzL (by simp) (by omega) z8 (by rfl) ?_; intro s8 w8 hpu; replace x_x := x_x.gr hpu.2.1 nx_L; replace x_y := x_y.gr hpu.2.1 (gzL.ne (.inl (by omega)))))
  all_goals go_wp2_with fail
  all_goals go_meet
  all_goals exact ⟨_, rfl, hpu.over hv⟩
 obtain ⟨sL2, rfl, gzN, hgr, hnw⟩ := hcut
 have hapN := (hap).nw gzH hnw
 replace gzH := gzH.gr hgr hap
 clear hap; have hap := hapN; clear hapN hnw
 replace x_a := x_a.gr hgr (gzL.ne (.inl (by omega)))
 replace x_r := x_r.gr hgr (gzL.ne (.inl (by omega)))
 replace x_e := x_e.gr hgr (gzL.ne (.inl (by omega)))
 replace x_y := x_y.gr hgr (gzL.ne (.inl (by omega)))
 replace x_x := x_x.gr hgr nx_L
 replace h := h.gr hgr
 replace h2 := h2.gr hgr
 replace h3 := h3.gr hgr
 replace h4 := h4.gr hgr
 replace z_x := z_x.gr hgr
 replace hb := Gr.below hb hb.size gzL hgr (by omega)
 clear gzL; have gzL := gzN; clear gzN hgr
 simp only [List.cons_append, List.nil_append] at gzL
 clear q_a0 f_a0 q_a1 f_a1 q_a2 f_a2 q_a3 f_a3 q_a4 f_a4 q_e0 f_e0 q_e1 f_e1 q_e2 f_e2 q_e3 f_e3 q_y0 f_y0 q_y1 f_y1 q_y2 f_y2 q_y3 f_y3 q_x0 f_x0 q_x1 f_x1
 generalize wc = v37 at *
 obtain ⟨q_a0, f_a0, q_a1, f_a1, q_a2, f_a2, q_a3, f_a3, q_a4, f_a4⟩ := x_a.al
 obtain ⟨q_e0, f_e0, q_e1, f_e1, q_e2, f_e2, q_e3, f_e3⟩ := x_e.al
 obtain ⟨q_y0, f_y0, q_y1, f_y1, q_y2, f_y2, q_y3, f_y3⟩ := x_y.al
 obtain ⟨q_x0, f_x0, q_x1, f_x1⟩ := x_x.al
 clear hv nx_L
 go_upto_region 18 with fail
 have hv := Below.refl v37.heap.size v37
 have l_a_u := x_a.lt
 have l_r_u := x_r.lt
 have l_e_u := x_e.lt
 have l_y_u := x_y.lt
 have l_x_u := x_x.lt
 go_cut [14] (fun s9 wx => BnNew1 v37 G1 150 s9 wx)
 case first =>
  go_region_held3 (fun w' => w'.cell? ⟨g33, 0, none⟩ = some (.bool (ngB SX)) ∧ w'.cell? ⟨g33, 1, none⟩ = some (.slice Ax34 nx34 cx34) ∧ w'.cell? ⟨vT.heap.size + 1, 0, none⟩ = some (.bool b3) ∧ w'.cell? ⟨vT.heap.size + 1, 1, none⟩ = some (.slice A3 n3 c3) ∧ w'.cell? ⟨vT.heap.size + 1, 2, none⟩ = some (.bool b4) ∧ w'.cell? ⟨vT.heap.size + 1, 3, none⟩ = some (.slice A4 n4 c4))
   (first | (with_reducible exact ⟨x_x.c0, x_x.c1, x_y.c0, x_y.c1, x_y.c2, x_y.c3⟩) | (with_reducible exact ⟨(x_x.alloc _).c0, (x_x.alloc _).c1, (x_y.alloc _).c0, (x_y.alloc _).c1, (x_y.alloc _).c2, (x_y.alloc _).c3⟩) | (with_reducible exact ⟨(x_x.aside (by omega)).c0, (x_x.aside (by omega)).c1, (x_y.aside (by omega)).c0, (x_y.aside (by omega)).c1, (x_y.aside (by omega)).c2, (x_y.aside (by omega)).c3⟩) | (with_reducible exact ⟨((x_x.alloc _).aside (by omega)).c0, ((x_x.alloc _).aside (by omega)).c1, ((x_y.alloc _).aside (by omega)).c0, ((x_y.alloc _).aside (by omega)).c1, ((x_y.alloc _).aside (by omega)).c2, ((x_y.alloc _).aside (by omega)).c3⟩) | go_keep)
   (first | (go_at_call 73; (with_reducible refine (RUpZ_any z_x.drw.zr h4.drw HV0.out 146 (by omega) (by omega) (by omega)).mono ?_); rintro e v38 ⟨A6, n6, c6, rfl, z6, hb1⟩; replace hb1 := undrew hb1; (try replace x_u := x_u.keep hb1); replace hv := bthen hv hb1; have hvs_v38 := hv.size; replace x_a := x_a.keep hb1; replace x_r := x_r.keep hb1; replace x_e := x_e.keep hb1; replace x_y := x_y.keep hb1; replace x_x := x_x.keep hb1; replace h := h.keep hb1; replace h2 := h2.keep hb1; replace h3 := h3.keep hb1; replace h4 := h4.keep hb1; replace gzL := gzL.keep hb1; replace gzH := gzH.keep hb1; replace z_x := z_x.keep hb1; replace hb := bthen hb hb1; clear hb1; clear q_a0 f_a0 q_a1 f_a1 q_a2 f_a2 q_a3 f_a3 q_a4 f_a4; obtain ⟨q_a0, f_a0, q_a1, f_a1, q_a2, f_a2, q_a3, f_a3, q_a4, f_a4⟩ := x_a.al; clear q_e0 f_e0 q_e1 f_e1 q_e2 f_e2 q_e3 f_e3; obtain ⟨q_e0, f_e0, q_e1, f_e1, q_e2, f_e2, q_e3, f_e3⟩ := x_e.al; clear q_y0 f_y0 q_y1 f_y1 q_y2 f_y2 q_y3 f_y3; obtain ⟨q_y0, f_y0, q_y1, f_y1, q_y2, f_y2, q_y3, f_y3⟩ := x_y.al; clear q_x0 f_x0 q_x1 f_x1; obtain ⟨q_x0, f_x0, q_x1, f_x1⟩ := x_x.al; rw [HG1.out] at z6 ⊢; (try (obtain ⟨q_u0, f_u0, q_u1, f_u1⟩ := x_u.al))) | (go_at_call 73; (with_reducible refine (RUpZ_any (z_x.keep (below_alloc v37 (.cells #[.bool false, .slice none 0 0] 24))).drw.zr (h4.keep (below_alloc v37 (.cells #[.bool false, .slice none 0 0] 24))).drw HV0.out 146 (by omega) (by omega) (by omega)).mono ?_); rintro e v38 ⟨A6, n6, c6, rfl, z6, hb1⟩; replace hb1 := undrew hb1; have x_u := (Bx.new v37 false none 0 0).keep hb1; replace hb1 := bthen (below_alloc v37 (.cells #[.bool false, .slice none 0 0] 24)) hb1; replace hv := bthen hv hb1; have hvs_v38 := hv.size; replace x_a := x_a.keep hb1; replace x_r := x_r.keep hb1; replace x_e := x_e.keep hb1; replace x_y := x_y.keep hb1; replace x_x := x_x.keep hb1; replace h := h.keep hb1; replace h2 := h2.keep hb1; replace h3 := h3.keep hb1; replace h4 := h4.keep hb1; replace gzL := gzL.keep hb1; replace gzH := gzH.keep hb1; replace z_x := z_x.keep hb1; replace hb := bthen hb hb1; clear hb1; clear q_a0 f_a0 q_a1 f_a1 q_a2 f_a2 q_a3 f_a3 q_a4 f_a4; obtain ⟨q_a0, f_a0, q_a1, f_a1, q_a2, f_a2, q_a3, f_a3, q_a4, f_a4⟩ := x_a.al; clear q_e0 f_e0 q_e1 f_e1 q_e2 f_e2 q_e3 f_e3; obtain ⟨q_e0, f_e0, q_e1, f_e1, q_e2, f_e2, q_e3, f_e3⟩ := x_e.al; clear q_y0 f_y0 q_y1 f_y1 q_y2 f_y2 q_y3 f_y3; obtain ⟨q_y0, f_y0, q_y1, f_y1, q_y2, f_y2, q_y3, f_y3⟩ := x_y.al; clear q_x0 f_x0 q_x1 f_x1; obtain ⟨q_x0, f_x0, q_x1, f_x1⟩ := x_x.al; rw [HG1.out] at z6 ⊢; (try (obtain ⟨q_u0, f_u0, q_u1, f_u1⟩ := x_u.al))))
  all_goals go_wp2_with fail
  all_goals go_meet
  all_goals first | (with_reducible exact BnNew1.new hv z6) | (with_reducible exact BnNew1.put hv x_u (by omega) z6)
 obtain ⟨g39, Ax40, nx40, cx40, rfl, x_u, z_u, e_u, hb1⟩ := hcut
 clear hv
 replace x_a := x_a.keep hb1
 replace x_r := x_r.keep hb1
 replace x_e := x_e.keep hb1
 replace x_y := x_y.keep hb1
 replace x_x := x_x.keep hb1
 replace h := h.keep hb1
 replace h2 := h2.keep hb1
 replace h3 := h3.keep hb1
 replace h4 := h4.keep hb1
 replace gzL := gzL.keep hb1
 replace gzH := gzH.keep hb1
 replace z_x := z_x.keep hb1
 replace hb := bthen hb hb1
 clear hb1
 clear q_a0 f_a0 q_a1 f_a1 q_a2 f_a2 q_a3 f_a3 q_a4 f_a4; obtain ⟨q_a0, f_a0, q_a1, f_a1, q_a2, f_a2, q_a3, f_a3, q_a4, f_a4⟩ := x_a.al
 clear q_e0 f_e0 q_e1 f_e1 q_e2 f_e2 q_e3 f_e3; obtain ⟨q_e0, f_e0, q_e1, f_e1, q_e2, f_e2, q_e3, f_e3⟩ := x_e.al
 clear q_y0 f_y0 q_y1 f_y1 q_y2 f_y2 q_y3 f_y3; obtain ⟨q_y0, f_y0, q_y1, f_y1, q_y2, f_y2, q_y3, f_y3⟩ := x_y.al
 clear q_x0 f_x0 q_x1 f_x1; obtain ⟨q_x0, f_x0, q_x1, f_x1⟩ := x_x.al
 clear q_a0 f_a0 q_a1 f_a1 q_a2 f_a2 q_a3 f_a3 q_a4 f_a4 q_e0 f_e0 q_e1 f_e1 q_e2 f_e2 q_e3 f_e3 q_y0 f_y0 q_y1 f_y1 q_y2 f_y2 q_y3 f_y3 q_x0 f_x0 q_x1 f_x1
 generalize wc = v41 at *
 obtain ⟨q_a0, f_a0, q_a1, f_a1, q_a2, f_a2, q_a3, f_a3, q_a4, f_a4⟩ := x_a.al
 obtain ⟨q_e0, f_e0, q_e1, f_e1, q_e2, f_e2, q_e3, f_e3⟩ := x_e.al
 obtain ⟨q_y0, f_y0, q_y1, f_y1, q_y2, f_y2, q_y3, f_y3⟩ := x_y.al
 obtain ⟨q_x0, f_x0, q_x1, f_x1⟩ := x_x.al
 obtain ⟨q_u0, f_u0, q_u1, f_u1⟩ := x_u.al
 clear q_x0 f_x0 q_x1 f_x1
 clear q_y0 f_y0 q_y1 f_y1 q_y2 f_y2 q_y3 f_y3
 clear q_e0 f_e0 q_e1 f_e1 q_e2 f_e2 q_e3 f_e3
 clear q_a0 f_a0 q_a1 f_a1 q_a2 f_a2 q_a3 f_a3 q_a4 f_a4
 have ly_1 := x_y.lt
 go_wp2_with (at_builtin; refine wp_pushG (V := v41) rfl (.tmp 76) (.tmp 78) rfl rfl gzH (by simp) (by omega) z_u rfl ?_; intro sH2 v42 hcut)
 clear x_x z_x x_u z_u q_u0 f_u0 q_u1 f_u1
 have gzN := hcut.1; have hgr := hcut.2.1; have hnw := hcut.2.2; clear hcut
 have hapN := (hap.symm).nw gzL hnw
 replace gzL := gzL.gr hgr hap.symm
 clear hap; have hap := hapN.symm; clear hapN hnw
 replace x_a := x_a.gr hgr (gzH.ne (.inl (by omega)))
 replace x_r := x_r.gr hgr (gzH.ne (.inl (by omega)))
 replace x_e := x_e.gr hgr (gzH.ne (.inl (by omega)))
 replace x_y := x_y.gr hgr (gzH.ne (.inl (by omega)))
 replace h := h.gr hgr
 replace h2 := h2.gr hgr
 replace h3 := h3.gr hgr
 replace h4 := h4.gr hgr
 replace hb := Gr.below hb hb.size gzH hgr (by omega)
 clear gzH; have gzH := gzN; clear gzN hgr
 simp only [List.cons_append, List.nil_append] at gzH
 obtain ⟨q_a0, f_a0, q_a1, f_a1, q_a2, f_a2, q_a3, f_a3, q_a4, f_a4⟩ := x_a.al
 obtain ⟨q_e0, f_e0, q_e1, f_e1, q_e2, f_e2, q_e3, f_e3⟩ := x_e.al
 obtain ⟨q_y0, f_y0, q_y1, f_y1, q_y2, f_y2, q_y3, f_y3⟩ := x_y.al
 rw [rounds_succ]
 go_wp2_with fail
 rw [rounds_succ]
 go_wp2_with fail
 refine wp_loop_rounds 3 ?_
 rw [rounds_succ]
 have GL := Lib.hid gzL
 go_upto_region 16 with fail
 have hv := Below.refl v42.heap.size v42
 have l_a_x := x_a.lt
 have l_r_x := x_r.lt
 have l_e_x := x_e.lt
 have l_y_x := x_y.lt
 go_cut [13] (fun s9 wx => BnNew1 v42 SY 136 s9 wx)
 case first =>
  go_region_held3 (fun w' => w'.cell? ⟨vT.heap.size, 0, none⟩ = some (.bool b) ∧ w'.cell? ⟨vT.heap.size, 1, none⟩ = some (.slice A n c) ∧ w'.cell? ⟨vT.heap.size, 2, none⟩ = some (.bool b2) ∧ w'.cell? ⟨vT.heap.size, 3, none⟩ = some (.slice A2 n2 c2) ∧ w'.cell? ⟨w.heap.size, 0, none⟩ = some (.bool b) ∧ w'.cell? ⟨w.heap.size, 1, none⟩ = some (.slice A n c) ∧ w'.cell? ⟨w.heap.size, 2, none⟩ = some (.bool b2) ∧ w'.cell? ⟨w.heap.size, 3, none⟩ = some (.slice A2 n2 c2) ∧ w'.cell? ⟨w.heap.size, 4, none⟩ = some (.int .i64 q))
   (first | (with_reducible exact ⟨x_e.c0, x_e.c1, x_e.c2, x_e.c3, x_a.c0, x_a.c1, x_a.c2, x_a.c3, x_a.c4⟩) | (with_reducible exact ⟨(x_e.alloc _).c0, (x_e.alloc _).c1, (x_e.alloc _).c2, (x_e.alloc _).c3, (x_a.alloc _).c0, (x_a.alloc _).c1, (x_a.alloc _).c2, (x_a.alloc _).c3, (x_a.alloc _).c4⟩) | (with_reducible exact ⟨(x_e.aside (by omega)).c0, (x_e.aside (by omega)).c1, (x_e.aside (by omega)).c2, (x_e.aside (by omega)).c3, (x_a.aside (by omega)).c0, (x_a.aside (by omega)).c1, (x_a.aside (by omega)).c2, (x_a.aside (by omega)).c3, (x_a.aside (by omega)).c4⟩) | (with_reducible exact ⟨((x_e.alloc _).aside (by omega)).c0, ((x_e.alloc _).aside (by omega)).c1, ((x_e.alloc _).aside (by omega)).c2, ((x_e.alloc _).aside (by omega)).c3, ((x_a.alloc _).aside (by omega)).c0, ((x_a.alloc _).aside (by omega)).c1, ((x_a.alloc _).aside (by omega)).c2, ((x_a.alloc _).aside (by omega)).c3, ((x_a.alloc _).aside (by omega)).c4⟩) | go_keep)
   (first | (go_at_call 71; (with_reducible refine (RShlZ_any h2.drw q 136 (by omega) (by omega)).mono ?_); rintro e v43 ⟨A5, n5, c5, rfl, z5, hb1⟩; replace hb1 := undrew hb1; (try replace x_x := x_x.keep hb1); replace hv := bthen hv hb1; have hvs_v43 := hv.size; replace x_a := x_a.keep hb1; replace x_r := x_r.keep hb1; replace x_e := x_e.keep hb1; replace x_y := x_y.keep hb1; replace h := h.keep hb1; replace h2 := h2.keep hb1; replace h3 := h3.keep hb1; replace h4 := h4.keep hb1; replace gzL := gzL.keep hb1; replace gzH := gzH.keep hb1; replace hb := bthen hb hb1; clear hb1; clear q_a0 f_a0 q_a1 f_a1 q_a2 f_a2 q_a3 f_a3 q_a4 f_a4; obtain ⟨q_a0, f_a0, q_a1, f_a1, q_a2, f_a2, q_a3, f_a3, q_a4, f_a4⟩ := x_a.al; clear q_e0 f_e0 q_e1 f_e1 q_e2 f_e2 q_e3 f_e3; obtain ⟨q_e0, f_e0, q_e1, f_e1, q_e2, f_e2, q_e3, f_e3⟩ := x_e.al; clear q_y0 f_y0 q_y1 f_y1 q_y2 f_y2 q_y3 f_y3; obtain ⟨q_y0, f_y0, q_y1, f_y1, q_y2, f_y2, q_y3, f_y3⟩ := x_y.al; rw [HSY.out] at z5 ⊢; (try (obtain ⟨q_x0, f_x0, q_x1, f_x1⟩ := x_x.al))) | (go_at_call 71; (with_reducible refine (RShlZ_any (h2.keep (below_alloc v42 (.cells #[.bool false, .slice none 0 0] 24))).drw q 136 (by omega) (by omega)).mono ?_); rintro e v43 ⟨A5, n5, c5, rfl, z5, hb1⟩; replace hb1 := undrew hb1; have x_x := (Bx.new v42 false none 0 0).keep hb1; replace hb1 := bthen (below_alloc v42 (.cells #[.bool false, .slice none 0 0] 24)) hb1; replace hv := bthen hv hb1; have hvs_v43 := hv.size; replace x_a := x_a.keep hb1; replace x_r := x_r.keep hb1; replace x_e := x_e.keep hb1; replace x_y := x_y.keep hb1; replace h := h.keep hb1; replace h2 := h2.keep hb1; replace h3 := h3.keep hb1; replace h4 := h4.keep hb1; replace gzL := gzL.keep hb1; replace gzH := gzH.keep hb1; replace hb := bthen hb hb1; clear hb1; clear q_a0 f_a0 q_a1 f_a1 q_a2 f_a2 q_a3 f_a3 q_a4 f_a4; obtain ⟨q_a0, f_a0, q_a1, f_a1, q_a2, f_a2, q_a3, f_a3, q_a4, f_a4⟩ := x_a.al; clear q_e0 f_e0 q_e1 f_e1 q_e2 f_e2 q_e3 f_e3; obtain ⟨q_e0, f_e0, q_e1, f_e1, q_e2, f_e2, q_e3, f_e3⟩ := x_e.al; clear q_y0 f_y0 q_y1 f_y1 q_y2 f_y2 q_y3 f_y3; obtain ⟨q_y0, f_y0, q_y1, f_y1, q_y2, f_y2, q_y3, f_y3⟩ := x_y.al; rw [HSY.out] at z5 ⊢; (try (obtain ⟨q_x0, f_x0, q_x1, f_x1⟩ := x_x.al))))
  all_goals go_wp2_with fail
  all_goals go_meet
  all_goals first | (with_reducible exact BnNew1.new hv z5) | (with_reducible exact BnNew1.put hv x_x (by omega) z5)
 obtain ⟨g44, Ax45, nx45, cx45, rfl, x_x, z_x, e_x, hb1⟩ := hcut
 clear hv
 replace x_a := x_a.keep hb1
 replace x_r := x_r.keep hb1
 replace x_e := x_e.keep hb1
 replace x_y := x_y.keep hb1
 replace h := h.keep hb1
 replace h2 := h2.keep hb1
 replace h3 := h3.keep hb1
 replace h4 := h4.keep hb1
 replace gzL := gzL.keep hb1
 replace gzH := gzH.keep hb1
 replace hb := bthen hb hb1
 clear hb1
 clear q_a0 f_a0 q_a1 f_a1 q_a2 f_a2 q_a3 f_a3 q_a4 f_a4; obtain ⟨q_a0, f_a0, q_a1, f_a1, q_a2, f_a2, q_a3, f_a3, q_a4, f_a4⟩ := x_a.al
 clear q_e0 f_e0 q_e1 f_e1 q_e2 f_e2 q_e3 f_e3; obtain ⟨q_e0, f_e0, q_e1, f_e1, q_e2, f_e2, q_e3, f_e3⟩ := x_e.al
 clear q_y0 f_y0 q_y1 f_y1 q_y2 f_y2 q_y3 f_y3; obtain ⟨q_y0, f_y0, q_y1, f_y1, q_y2, f_y2, q_y3, f_y3⟩ := x_y.al
 clear q_a0 f_a0 q_a1 f_a1 q_a2 f_a2 q_a3 f_a3 q_a4 f_a4 q_e0 f_e0 q_e1 f_e1 q_e2 f_e2 q_e3 f_e3 q_y0 f_y0 q_y1 f_y1 q_y2 f_y2 q_y3 f_y3
 generalize wc = v46 at *
 obtain ⟨q_a0, f_a0, q_a1, f_a1, q_a2, f_a2, q_a3, f_a3, q_a4, f_a4⟩ := x_a.al
 obtain ⟨q_e0, f_e0, q_e1, f_e1, q_e2, f_e2, q_e3, f_e3⟩ := x_e.al
 obtain ⟨q_y0, f_y0, q_y1, f_y1, q_y2, f_y2, q_y3, f_y3⟩ := x_y.al
 obtain ⟨q_x0, f_x0, q_x1, f_x1⟩ := x_x.al
 have nx_L := GL.out.ne (.inr e_x)
 clear GL
 go_upto_region 17 with fail
 have hv := Below.refl v46.heap.size v46
 have ly_2 := x_y.lt
 go_cut [7] (fun s9 wx => ∃ t, t = s9 ∧ Pu v46 (vT.heap.size + 2) sL2 [E0, E1] E2 t wx)
 case first =>
  clear q_a0 f_a0 q_a1 f_a1 q_a2 f_a2 q_a3 f_a3 q_a4 f_a4
  clear q_e0 f_e0 q_e1 f_e1 q_e2 f_e2 q_e3 f_e3
  go_region_held3 (fun w' => w'.cell? ⟨g44, 0, none⟩ = some (.bool (ngB SY)) ∧ w'.cell? ⟨g44, 1, none⟩ = some (.slice Ax45 nx45 cx45) ∧ w'.cell? ⟨vT.heap.size + 1, 0, none⟩ = some (.bool b3) ∧ w'.cell? ⟨vT.heap.size + 1, 1, none⟩ = some (.slice A3 n3 c3) ∧ w'.cell? ⟨vT.heap.size + 1, 2, none⟩ = some (.bool b4) ∧ w'.cell? ⟨vT.heap.size + 1, 3, none⟩ = some (.slice A4 n4 c4))
   (first | (with_reducible exact ⟨x_x.c0, x_x.c1, x_y.c0, x_y.c1, x_y.c2, x_y.c3⟩) | (with_reducible exact ⟨(x_x.alloc _).c0, (x_x.alloc _).c1, (x_y.alloc _).c0, (x_y.alloc _).c1, (x_y.alloc _).c2, (x_y.alloc _).c3⟩) | go_keep)
   (first | (go_at_call 72; (with_reducible refine (Rfl_any z_x.drw.zr h3.drw HU0.out (by omega) (by omega)).mono ?_); rintro e v47 ⟨A8, n8, c8, rfl, z8, hb1⟩; replace hb1 := undrew hb1; replace hv := hb1; replace x_y := x_y.keep hb1; replace x_x := x_x.keep hb1; replace h3 := h3.keep hb1; replace gzL := gzL.keep hb1; replace z_x := z_x.keep hb1; replace hb := bthen hb hb1; clear hb1; clear q_y0 f_y0 q_y1 f_y1 q_y2 f_y2 q_y3 f_y3; obtain ⟨q_y0, f_y0, q_y1, f_y1, q_y2, f_y2, q_y3, f_y3⟩ := x_y.al; clear q_x0 f_x0 q_x1 f_x1; obtain ⟨q_x0, f_x0, q_x1, f_x1⟩ := x_x.al; rw [HE2.out] at z8 ⊢; have hV := x_y.lt) | (refine step_pushG (V := v47) (by rfl) _ _ (by rfl) (by rfl) gzL (by simp) (by omega) z8 (by rfl) ?_; intro s8 w8 hpu; replace x_x := x_x.gr hpu.2.1 nx_L; replace x_y := x_y.gr hpu.2.1 (gzL.ne (.inl (by omega)))))
  all_goals go_wp2_with fail
  all_goals go_meet
  all_goals exact ⟨_, rfl, hpu.over hv⟩
 obtain ⟨sL3, rfl, gzN, hgr, hnw⟩ := hcut
 have hapN := (hap).nw gzH hnw
 replace gzH := gzH.gr hgr hap
 clear hap; have hap := hapN; clear hapN hnw
 replace x_a := x_a.gr hgr (gzL.ne (.inl (by omega)))
 replace x_r := x_r.gr hgr (gzL.ne (.inl (by omega)))
 replace x_e := x_e.gr hgr (gzL.ne (.inl (by omega)))
 replace x_y := x_y.gr hgr (gzL.ne (.inl (by omega)))
 replace x_x := x_x.gr hgr nx_L
 replace h := h.gr hgr
 replace h2 := h2.gr hgr
 replace h3 := h3.gr hgr
 replace h4 := h4.gr hgr
 replace z_x := z_x.gr hgr
 replace hb := Gr.below hb hb.size gzL hgr (by omega)
 clear gzL; have gzL := gzN; clear gzN hgr
 simp only [List.cons_append, List.nil_append] at gzL
 clear q_a0 f_a0 q_a1 f_a1 q_a2 f_a2 q_a3 f_a3 q_a4 f_a4 q_e0 f_e0 q_e1 f_e1 q_e2 f_e2 q_e3 f_e3 q_y0 f_y0 q_y1 f_y1 q_y2 f_y2 q_y3 f_y3 q_x0 f_x0 q_x1 f_x1
 generalize wc = v48 at *
 obtain ⟨q_a0, f_a0, q_a1, f_a1, q_a2, f_a2, q_a3, f_a3, q_a4, f_a4⟩ := x_a.al
 obtain ⟨q_e0, f_e0, q_e1, f_e1, q_e2, f_e2, q_e3, f_e3⟩ := x_e.al
 obtain ⟨q_y0, f_y0, q_y1, f_y1, q_y2, f_y2, q_y3, f_y3⟩ := x_y.al
 obtain ⟨q_x0, f_x0, q_x1, f_x1⟩ := x_x.al
 clear hv nx_L
 go_upto_region 18 with fail
 have hv := Below.refl v48.heap.size v48
 have l_a_u := x_a.lt
 have l_r_u := x_r.lt
 have l_e_u := x_e.lt
 have l_y_u := x_y.lt
 have l_x_u := x_x.lt
 go_cut [14] (fun s9 wx => BnNew1 v48 G2 150 s9 wx)
 case first =>
  go_region_held3 (fun w' => w'.cell? ⟨g44, 0, none⟩ = some (.bool (ngB SY)) ∧ w'.cell? ⟨g44, 1, none⟩ = some (.slice Ax45 nx45 cx45) ∧ w'.cell? ⟨vT.heap.size + 1, 0, none⟩ = some (.bool b3) ∧ w'.cell? ⟨vT.heap.size + 1, 1, none⟩ = some (.slice A3 n3 c3) ∧ w'.cell? ⟨vT.heap.size + 1, 2, none⟩ = some (.bool b4) ∧ w'.cell? ⟨vT.heap.size + 1, 3, none⟩ = some (.slice A4 n4 c4))
   (first | (with_reducible exact ⟨x_x.c0, x_x.c1, x_y.c0, x_y.c1, x_y.c2, x_y.c3⟩) | (with_reducible exact ⟨(x_x.alloc _).c0, (x_x.alloc _).c1, (x_y.alloc _).c0, (x_y.alloc _).c1, (x_y.alloc _).c2, (x_y.alloc _).c3⟩) | (with_reducible exact ⟨(x_x.aside (by omega)).c0, (x_x.aside (by omega)).c1, (x_y.aside (by omega)).c0, (x_y.aside (by omega)).c1, (x_y.aside (by omega)).c2, (x_y.aside (by omega)).c3⟩) | (with_reducible exact ⟨((x_x.alloc _).aside (by omega)).c0, ((x_x.alloc _).aside (by omega)).c1, ((x_y.alloc _).aside (by omega)).c0, ((x_y.alloc _).aside (by omega)).c1, ((x_y.alloc _).aside (by omega)).c2, ((x_y.alloc _).aside (by omega)).c3⟩) | go_keep)
   (first | (go_at_call 73; (with_reducible refine (RUpZ_any z_x.drw.zr h3.drw HU0.out 146 (by omega) (by omega) (by omega)).mono ?_); rintro e v49 ⟨A6, n6, c6, rfl, z6, hb1⟩; replace hb1 := undrew hb1; (try replace x_u := x_u.keep hb1); replace hv := bthen hv hb1; have hvs_v49 := hv.size; replace x_a := x_a.keep hb1; replace x_r := x_r.keep hb1; replace x_e := x_e.keep hb1; replace x_y := x_y.keep hb1; replace x_x := x_x.keep hb1; replace h := h.keep hb1; replace h2 := h2.keep hb1; replace h3 := h3.keep hb1; replace h4 := h4.keep hb1; replace gzL := gzL.keep hb1; replace gzH := gzH.keep hb1; replace z_x := z_x.keep hb1; replace hb := bthen hb hb1; clear hb1; clear q_a0 f_a0 q_a1 f_a1 q_a2 f_a2 q_a3 f_a3 q_a4 f_a4; obtain ⟨q_a0, f_a0, q_a1, f_a1, q_a2, f_a2, q_a3, f_a3, q_a4, f_a4⟩ := x_a.al; clear q_e0 f_e0 q_e1 f_e1 q_e2 f_e2 q_e3 f_e3; obtain ⟨q_e0, f_e0, q_e1, f_e1, q_e2, f_e2, q_e3, f_e3⟩ := x_e.al; clear q_y0 f_y0 q_y1 f_y1 q_y2 f_y2 q_y3 f_y3; obtain ⟨q_y0, f_y0, q_y1, f_y1, q_y2, f_y2, q_y3, f_y3⟩ := x_y.al; clear q_x0 f_x0 q_x1 f_x1; obtain ⟨q_x0, f_x0, q_x1, f_x1⟩ := x_x.al; rw [HG2.out] at z6 ⊢; (try (obtain ⟨q_u0, f_u0, q_u1, f_u1⟩ := x_u.al))) | (go_at_call 73; (with_reducible refine (RUpZ_any (z_x.keep (below_alloc v48 (.cells #[.bool false, .slice none 0 0] 24))).drw.zr (h3.keep (below_alloc v48 (.cells #[.bool false, .slice none 0 0] 24))).drw HU0.out 146 (by omega) (by omega) (by omega)).mono ?_); rintro e v49 ⟨A6, n6, c6, rfl, z6, hb1⟩; replace hb1 := undrew hb1; have x_u := (Bx.new v48 false none 0 0).keep hb1; replace hb1 := bthen (below_alloc v48 (.cells #[.bool false, .slice none 0 0] 24)) hb1; replace hv := bthen hv hb1; have hvs_v49 := hv.size; replace x_a := x_a.keep hb1; replace x_r := x_r.keep hb1; replace x_e := x_e.keep hb1; replace x_y := x_y.keep hb1; replace x_x := x_x.keep hb1; replace h := h.keep hb1; replace h2 := h2.keep hb1; replace h3 := h3.keep hb1; replace h4 := h4.keep hb1; replace gzL := gzL.keep hb1; replace gzH := gzH.keep hb1; replace z_x := z_x.keep hb1; replace hb := bthen hb hb1; clear hb1; clear q_a0 f_a0 q_a1 f_a1 q_a2 f_a2 q_a3 f_a3 q_a4 f_a4; obtain ⟨q_a0, f_a0, q_a1, f_a1, q_a2, f_a2, q_a3, f_a3, q_a4, f_a4⟩ := x_a.al; clear q_e0 f_e0 q_e1 f_e1 q_e2 f_e2 q_e3 f_e3; obtain ⟨q_e0, f_e0, q_e1, f_e1, q_e2, f_e2, q_e3, f_e3⟩ := x_e.al; clear q_y0 f_y0 q_y1 f_y1 q_y2 f_y2 q_y3 f_y3; obtain ⟨q_y0, f_y0, q_y1, f_y1, q_y2, f_y2, q_y3, f_y3⟩ := x_y.al; clear q_x0 f_x0 q_x1 f_x1; obtain ⟨q_x0, f_x0, q_x1, f_x1⟩ := x_x.al; rw [HG2.out] at z6 ⊢; (try (obtain ⟨q_u0, f_u0, q_u1, f_u1⟩ := x_u.al))))
  all_goals go_wp2_with fail
  all_goals go_meet
  all_goals first | (with_reducible exact BnNew1.new hv z6) | (with_reducible exact BnNew1.put hv x_u (by omega) z6)
 obtain ⟨g50, Ax51, nx51, cx51, rfl, x_u, z_u, e_u, hb1⟩ := hcut
 clear hv
 replace x_a := x_a.keep hb1
 replace x_r := x_r.keep hb1
 replace x_e := x_e.keep hb1
 replace x_y := x_y.keep hb1
 replace x_x := x_x.keep hb1
 replace h := h.keep hb1
 replace h2 := h2.keep hb1
 replace h3 := h3.keep hb1
 replace h4 := h4.keep hb1
 replace gzL := gzL.keep hb1
 replace gzH := gzH.keep hb1
 replace z_x := z_x.keep hb1
 replace hb := bthen hb hb1
 clear hb1
 clear q_a0 f_a0 q_a1 f_a1 q_a2 f_a2 q_a3 f_a3 q_a4 f_a4; obtain ⟨q_a0, f_a0, q_a1, f_a1, q_a2, f_a2, q_a3, f_a3, q_a4, f_a4⟩ := x_a.al
 clear q_e0 f_e0 q_e1 f_e1 q_e2 f_e2 q_e3 f_e3; obtain ⟨q_e0, f_e0, q_e1, f_e1, q_e2, f_e2, q_e3, f_e3⟩ := x_e.al
 clear q_y0 f_y0 q_y1 f_y1 q_y2 f_y2 q_y3 f_y3; obtain ⟨q_y0, f_y0, q_y1, f_y1, q_y2, f_y2, q_y3, f_y3⟩ := x_y.al
 clear q_x0 f_x0 q_x1 f_x1; obtain ⟨q_x0, f_x0, q_x1, f_x1⟩ := x_x.al
 clear q_a0 f_a0 q_a1 f_a1 q_a2 f_a2 q_a3 f_a3 q_a4 f_a4 q_e0 f_e0 q_e1 f_e1 q_e2 f_e2 q_e3 f_e3 q_y0 f_y0 q_y1 f_y1 q_y2 f_y2 q_y3 f_y3 q_x0 f_x0 q_x1 f_x1
 generalize wc = v52 at *
 obtain ⟨q_a0, f_a0, q_a1, f_a1, q_a2, f_a2, q_a3, f_a3, q_a4, f_a4⟩ := x_a.al
 obtain ⟨q_e0, f_e0, q_e1, f_e1, q_e2, f_e2, q_e3, f_e3⟩ := x_e.al
 obtain ⟨q_y0, f_y0, q_y1, f_y1, q_y2, f_y2, q_y3, f_y3⟩ := x_y.al
 obtain ⟨q_x0, f_x0, q_x1, f_x1⟩ := x_x.al
 obtain ⟨q_u0, f_u0, q_u1, f_u1⟩ := x_u.al
 clear q_x0 f_x0 q_x1 f_x1
 clear q_y0 f_y0 q_y1 f_y1 q_y2 f_y2 q_y3 f_y3
 clear q_e0 f_e0 q_e1 f_e1 q_e2 f_e2 q_e3 f_e3
 clear q_a0 f_a0 q_a1 f_a1 q_a2 f_a2 q_a3 f_a3 q_a4 f_a4
 have ly_2 := x_y.lt
 go_wp2_with (at_builtin; refine wp_pushG (V := v52) rfl (.tmp 76) (.tmp 78) rfl rfl gzH (by simp) (by omega) z_u rfl ?_; intro sH3 v53 hcut)
 clear x_x z_x x_u z_u q_u0 f_u0 q_u1 f_u1
 have gzN := hcut.1; have hgr := hcut.2.1; have hnw := hcut.2.2; clear hcut
 have hapN := (hap.symm).nw gzL hnw
 replace gzL := gzL.gr hgr hap.symm
 clear hap; have hap := hapN.symm; clear hapN hnw
 replace x_a := x_a.gr hgr (gzH.ne (.inl (by omega)))
 replace x_r := x_r.gr hgr (gzH.ne (.inl (by omega)))
 replace x_e := x_e.gr hgr (gzH.ne (.inl (by omega)))
 replace x_y := x_y.gr hgr (gzH.ne (.inl (by omega)))
 replace h := h.gr hgr
 replace h2 := h2.gr hgr
 replace h3 := h3.gr hgr
 replace h4 := h4.gr hgr
 replace hb := Gr.below hb hb.size gzH hgr (by omega)
 clear gzH; have gzH := gzN; clear gzN hgr
 simp only [List.cons_append, List.nil_append] at gzH
 obtain ⟨q_a0, f_a0, q_a1, f_a1, q_a2, f_a2, q_a3, f_a3, q_a4, f_a4⟩ := x_a.al
 obtain ⟨q_e0, f_e0, q_e1, f_e1, q_e2, f_e2, q_e3, f_e3⟩ := x_e.al
 obtain ⟨q_y0, f_y0, q_y1, f_y1, q_y2, f_y2, q_y3, f_y3⟩ := x_y.al
 rw [rounds_succ]
 have GL := Lib.hid gzL
 go_upto_region 16 with fail
 have hv := Below.refl v53.heap.size v53
 have l_a_x := x_a.lt
 have l_r_x := x_r.lt
 have l_e_x := x_e.lt
 have l_y_x := x_y.lt
 go_cut [13] (fun s9 wx => BnNew1 v53 SY 136 s9 wx)
 case first =>
  go_region_held3 (fun w' => w'.cell? ⟨vT.heap.size, 0, none⟩ = some (.bool b) ∧ w'.cell? ⟨vT.heap.size, 1, none⟩ = some (.slice A n c) ∧ w'.cell? ⟨vT.heap.size, 2, none⟩ = some (.bool b2) ∧ w'.cell? ⟨vT.heap.size, 3, none⟩ = some (.slice A2 n2 c2) ∧ w'.cell? ⟨w.heap.size, 0, none⟩ = some (.bool b) ∧ w'.cell? ⟨w.heap.size, 1, none⟩ = some (.slice A n c) ∧ w'.cell? ⟨w.heap.size, 2, none⟩ = some (.bool b2) ∧ w'.cell? ⟨w.heap.size, 3, none⟩ = some (.slice A2 n2 c2) ∧ w'.cell? ⟨w.heap.size, 4, none⟩ = some (.int .i64 q))
   (first | (with_reducible exact ⟨x_e.c0, x_e.c1, x_e.c2, x_e.c3, x_a.c0, x_a.c1, x_a.c2, x_a.c3, x_a.c4⟩) | (with_reducible exact ⟨(x_e.alloc _).c0, (x_e.alloc _).c1, (x_e.alloc _).c2, (x_e.alloc _).c3, (x_a.alloc _).c0, (x_a.alloc _).c1, (x_a.alloc _).c2, (x_a.alloc _).c3, (x_a.alloc _).c4⟩) | (with_reducible exact ⟨(x_e.aside (by omega)).c0, (x_e.aside (by omega)).c1, (x_e.aside (by omega)).c2, (x_e.aside (by omega)).c3, (x_a.aside (by omega)).c0, (x_a.aside (by omega)).c1, (x_a.aside (by omega)).c2, (x_a.aside (by omega)).c3, (x_a.aside (by omega)).c4⟩) | (with_reducible exact ⟨((x_e.alloc _).aside (by omega)).c0, ((x_e.alloc _).aside (by omega)).c1, ((x_e.alloc _).aside (by omega)).c2, ((x_e.alloc _).aside (by omega)).c3, ((x_a.alloc _).aside (by omega)).c0, ((x_a.alloc _).aside (by omega)).c1, ((x_a.alloc _).aside (by omega)).c2, ((x_a.alloc _).aside (by omega)).c3, ((x_a.alloc _).aside (by omega)).c4⟩) | go_keep)
   (first | (go_at_call 71; (with_reducible refine (RShlZ_any h2.drw q 136 (by omega) (by omega)).mono ?_); rintro e v54 ⟨A5, n5, c5, rfl, z5, hb1⟩; replace hb1 := undrew hb1; (try replace x_x := x_x.keep hb1); replace hv := bthen hv hb1; have hvs_v54 := hv.size; replace x_a := x_a.keep hb1; replace x_r := x_r.keep hb1; replace x_e := x_e.keep hb1; replace x_y := x_y.keep hb1; replace h := h.keep hb1; replace h2 := h2.keep hb1; replace h3 := h3.keep hb1; replace h4 := h4.keep hb1; replace gzL := gzL.keep hb1; replace gzH := gzH.keep hb1; replace hb := bthen hb hb1; clear hb1; clear q_a0 f_a0 q_a1 f_a1 q_a2 f_a2 q_a3 f_a3 q_a4 f_a4; obtain ⟨q_a0, f_a0, q_a1, f_a1, q_a2, f_a2, q_a3, f_a3, q_a4, f_a4⟩ := x_a.al; clear q_e0 f_e0 q_e1 f_e1 q_e2 f_e2 q_e3 f_e3; obtain ⟨q_e0, f_e0, q_e1, f_e1, q_e2, f_e2, q_e3, f_e3⟩ := x_e.al; clear q_y0 f_y0 q_y1 f_y1 q_y2 f_y2 q_y3 f_y3; obtain ⟨q_y0, f_y0, q_y1, f_y1, q_y2, f_y2, q_y3, f_y3⟩ := x_y.al; rw [HSY.out] at z5 ⊢; (try (obtain ⟨q_x0, f_x0, q_x1, f_x1⟩ := x_x.al))) | (go_at_call 71; (with_reducible refine (RShlZ_any (h2.keep (below_alloc v53 (.cells #[.bool false, .slice none 0 0] 24))).drw q 136 (by omega) (by omega)).mono ?_); rintro e v54 ⟨A5, n5, c5, rfl, z5, hb1⟩; replace hb1 := undrew hb1; have x_x := (Bx.new v53 false none 0 0).keep hb1; replace hb1 := bthen (below_alloc v53 (.cells #[.bool false, .slice none 0 0] 24)) hb1; replace hv := bthen hv hb1; have hvs_v54 := hv.size; replace x_a := x_a.keep hb1; replace x_r := x_r.keep hb1; replace x_e := x_e.keep hb1; replace x_y := x_y.keep hb1; replace h := h.keep hb1; replace h2 := h2.keep hb1; replace h3 := h3.keep hb1; replace h4 := h4.keep hb1; replace gzL := gzL.keep hb1; replace gzH := gzH.keep hb1; replace hb := bthen hb hb1; clear hb1; clear q_a0 f_a0 q_a1 f_a1 q_a2 f_a2 q_a3 f_a3 q_a4 f_a4; obtain ⟨q_a0, f_a0, q_a1, f_a1, q_a2, f_a2, q_a3, f_a3, q_a4, f_a4⟩ := x_a.al; clear q_e0 f_e0 q_e1 f_e1 q_e2 f_e2 q_e3 f_e3; obtain ⟨q_e0, f_e0, q_e1, f_e1, q_e2, f_e2, q_e3, f_e3⟩ := x_e.al; clear q_y0 f_y0 q_y1 f_y1 q_y2 f_y2 q_y3 f_y3; obtain ⟨q_y0, f_y0, q_y1, f_y1, q_y2, f_y2, q_y3, f_y3⟩ := x_y.al; rw [HSY.out] at z5 ⊢; (try (obtain ⟨q_x0, f_x0, q_x1, f_x1⟩ := x_x.al))))
  all_goals go_wp2_with fail
  all_goals go_meet
  all_goals first | (with_reducible exact BnNew1.new hv z5) | (with_reducible exact BnNew1.put hv x_x (by omega) z5)
 obtain ⟨g55, Ax56, nx56, cx56, rfl, x_x, z_x, e_x, hb1⟩ := hcut
 clear hv
 replace x_a := x_a.keep hb1
 replace x_r := x_r.keep hb1
 replace x_e := x_e.keep hb1
 replace x_y := x_y.keep hb1
 replace h := h.keep hb1
 replace h2 := h2.keep hb1
 replace h3 := h3.keep hb1
 replace h4 := h4.keep hb1
 replace gzL := gzL.keep hb1
 replace gzH := gzH.keep hb1
 replace hb := bthen hb hb1
 clear hb1
 clear q_a0 f_a0 q_a1 f_a1 q_a2 f_a2 q_a3 f_a3 q_a4 f_a4; obtain ⟨q_a0, f_a0, q_a1, f_a1, q_a2, f_a2, q_a3, f_a3, q_a4, f_a4⟩ := x_a.al
 clear q_e0 f_e0 q_e1 f_e1 q_e2 f_e2 q_e3 f_e3; obtain ⟨q_e0, f_e0, q_e1, f_e1, q_e2, f_e2, q_e3, f_e3⟩ := x_e.al
 clear q_y0 f_y0 q_y1 f_y1 q_y2 f_y2 q_y3 f_y3; obtain ⟨q_y0, f_y0, q_y1, f_y1, q_y2, f_y2, q_y3, f_y3⟩ := x_y.al
 clear q_a0 f_a0 q_a1 f_a1 q_a2 f_a2 q_a3 f_a3 q_a4 f_a4 q_e0 f_e0 q_e1 f_e1 q_e2 f_e2 q_e3 f_e3 q_y0 f_y0 q_y1 f_y1 q_y2 f_y2 q_y3 f_y3
 generalize wc = v57 at *
 obtain ⟨q_a0, f_a0, q_a1, f_a1, q_a2, f_a2, q_a3, f_a3, q_a4, f_a4⟩ := x_a.al
 obtain ⟨q_e0, f_e0, q_e1, f_e1, q_e2, f_e2, q_e3, f_e3⟩ := x_e.al
 obtain ⟨q_y0, f_y0, q_y1, f_y1, q_y2, f_y2, q_y3, f_y3⟩ := x_y.al
 obtain ⟨q_x0, f_x0, q_x1, f_x1⟩ := x_x.al
 have nx_L := GL.out.ne (.inr e_x)
 clear GL
 go_upto_region 17 with fail
 have hv := Below.refl v57.heap.size v57
 have ly_3 := x_y.lt
 go_cut [7] (fun s9 wx => ∃ t, t = s9 ∧ Pu v57 (vT.heap.size + 2) sL3 [E0, E1, E2] E3 t wx)
 case first =>
  clear q_a0 f_a0 q_a1 f_a1 q_a2 f_a2 q_a3 f_a3 q_a4 f_a4
  clear q_e0 f_e0 q_e1 f_e1 q_e2 f_e2 q_e3 f_e3
  go_region_held3 (fun w' => w'.cell? ⟨g55, 0, none⟩ = some (.bool (ngB SY)) ∧ w'.cell? ⟨g55, 1, none⟩ = some (.slice Ax56 nx56 cx56) ∧ w'.cell? ⟨vT.heap.size + 1, 0, none⟩ = some (.bool b3) ∧ w'.cell? ⟨vT.heap.size + 1, 1, none⟩ = some (.slice A3 n3 c3) ∧ w'.cell? ⟨vT.heap.size + 1, 2, none⟩ = some (.bool b4) ∧ w'.cell? ⟨vT.heap.size + 1, 3, none⟩ = some (.slice A4 n4 c4))
   (first | (with_reducible exact ⟨x_x.c0, x_x.c1, x_y.c0, x_y.c1, x_y.c2, x_y.c3⟩) | (with_reducible exact ⟨(x_x.alloc _).c0, (x_x.alloc _).c1, (x_y.alloc _).c0, (x_y.alloc _).c1, (x_y.alloc _).c2, (x_y.alloc _).c3⟩) | go_keep)
   (first | (go_at_call 72; (with_reducible refine (Rfl_any z_x.drw.zr h4.drw HV0.out (by omega) (by omega)).mono ?_); rintro e v58 ⟨A8, n8, c8, rfl, z8, hb1⟩; replace hb1 := undrew hb1; replace hv := hb1; replace x_y := x_y.keep hb1; replace x_x := x_x.keep hb1; replace h4 := h4.keep hb1; replace gzL := gzL.keep hb1; replace z_x := z_x.keep hb1; replace hb := bthen hb hb1; clear hb1; clear q_y0 f_y0 q_y1 f_y1 q_y2 f_y2 q_y3 f_y3; obtain ⟨q_y0, f_y0, q_y1, f_y1, q_y2, f_y2, q_y3, f_y3⟩ := x_y.al; clear q_x0 f_x0 q_x1 f_x1; obtain ⟨q_x0, f_x0, q_x1, f_x1⟩ := x_x.al; rw [HE3.out] at z8 ⊢; have hV := x_y.lt) | (refine step_pushG (V := v58) (by rfl) _ _ (by rfl) (by rfl) gzL (by simp) (by omega) z8 (by rfl) ?_; intro s8 w8 hpu; replace x_x := x_x.gr hpu.2.1 nx_L; replace x_y := x_y.gr hpu.2.1 (gzL.ne (.inl (by omega)))))
  all_goals go_wp2_with fail
  all_goals go_meet
  all_goals exact ⟨_, rfl, hpu.over hv⟩
 obtain ⟨sL4, rfl, gzN, hgr, hnw⟩ := hcut
 have hapN := (hap).nw gzH hnw
 replace gzH := gzH.gr hgr hap
 clear hap; have hap := hapN; clear hapN hnw
 replace x_a := x_a.gr hgr (gzL.ne (.inl (by omega)))
 replace x_r := x_r.gr hgr (gzL.ne (.inl (by omega)))
 replace x_e := x_e.gr hgr (gzL.ne (.inl (by omega)))
 replace x_y := x_y.gr hgr (gzL.ne (.inl (by omega)))
 replace x_x := x_x.gr hgr nx_L
 replace h := h.gr hgr
 replace h2 := h2.gr hgr
 replace h3 := h3.gr hgr
 replace h4 := h4.gr hgr
 replace z_x := z_x.gr hgr
 replace hb := Gr.below hb hb.size gzL hgr (by omega)
 clear gzL; have gzL := gzN; clear gzN hgr
 simp only [List.cons_append, List.nil_append] at gzL
 clear q_a0 f_a0 q_a1 f_a1 q_a2 f_a2 q_a3 f_a3 q_a4 f_a4 q_e0 f_e0 q_e1 f_e1 q_e2 f_e2 q_e3 f_e3 q_y0 f_y0 q_y1 f_y1 q_y2 f_y2 q_y3 f_y3 q_x0 f_x0 q_x1 f_x1
 generalize wc = v59 at *
 obtain ⟨q_a0, f_a0, q_a1, f_a1, q_a2, f_a2, q_a3, f_a3, q_a4, f_a4⟩ := x_a.al
 obtain ⟨q_e0, f_e0, q_e1, f_e1, q_e2, f_e2, q_e3, f_e3⟩ := x_e.al
 obtain ⟨q_y0, f_y0, q_y1, f_y1, q_y2, f_y2, q_y3, f_y3⟩ := x_y.al
 obtain ⟨q_x0, f_x0, q_x1, f_x1⟩ := x_x.al
 clear hv nx_L
 go_upto_region 18 with fail
 have hv := Below.refl v59.heap.size v59
 have l_a_u := x_a.lt
 have l_r_u := x_r.lt
 have l_e_u := x_e.lt
 have l_y_u := x_y.lt
 have l_x_u := x_x.lt
 go_cut [14] (fun s9 wx => BnNew1 v59 G3 150 s9 wx)
 case first =>
  go_region_held3 (fun w' => w'.cell? ⟨g55, 0, none⟩ = some (.bool (ngB SY)) ∧ w'.cell? ⟨g55, 1, none⟩ = some (.slice Ax56 nx56 cx56) ∧ w'.cell? ⟨vT.heap.size + 1, 0, none⟩ = some (.bool b3) ∧ w'.cell? ⟨vT.heap.size + 1, 1, none⟩ = some (.slice A3 n3 c3) ∧ w'.cell? ⟨vT.heap.size + 1, 2, none⟩ = some (.bool b4) ∧ w'.cell? ⟨vT.heap.size + 1, 3, none⟩ = some (.slice A4 n4 c4))
   (first | (with_reducible exact ⟨x_x.c0, x_x.c1, x_y.c0, x_y.c1, x_y.c2, x_y.c3⟩) | (with_reducible exact ⟨(x_x.alloc _).c0, (x_x.alloc _).c1, (x_y.alloc _).c0, (x_y.alloc _).c1, (x_y.alloc _).c2, (x_y.alloc _).c3⟩) | (with_reducible exact ⟨(x_x.aside (by omega)).c0, (x_x.aside (by omega)).c1, (x_y.aside (by omega)).c0, (x_y.aside (by omega)).c1, (x_y.aside (by omega)).c2, (x_y.aside (by omega)).c3⟩) | (with_reducible exact ⟨((x_x.alloc _).aside (by omega)).c0, ((x_x.alloc _).aside (by omega)).c1, ((x_y.alloc _).aside (by omega)).c0, ((x_y.alloc _).aside (by omega)).c1, ((x_y.alloc _).aside (by omega)).c2, ((x_y.alloc _).aside (by omega)).c3⟩) | go_keep)
   (first | (go_at_call 73; (with_reducible refine (RUpZ_any z_x.drw.zr h4.drw HV0.out 146 (by omega) (by omega) (by omega)).mono ?_); rintro e v60 ⟨A6, n6, c6, rfl, z6, hb1⟩; replace hb1 := undrew hb1; (try replace x_u := x_u.keep hb1); replace hv := bthen hv hb1; have hvs_v60 := hv.size; replace x_a := x_a.keep hb1; replace x_r := x_r.keep hb1; replace x_e := x_e.keep hb1; replace x_y := x_y.keep hb1; replace x_x := x_x.keep hb1; replace h := h.keep hb1; replace h2 := h2.keep hb1; replace h3 := h3.keep hb1; replace h4 := h4.keep hb1; replace gzL := gzL.keep hb1; replace gzH := gzH.keep hb1; replace z_x := z_x.keep hb1; replace hb := bthen hb hb1; clear hb1; clear q_a0 f_a0 q_a1 f_a1 q_a2 f_a2 q_a3 f_a3 q_a4 f_a4; obtain ⟨q_a0, f_a0, q_a1, f_a1, q_a2, f_a2, q_a3, f_a3, q_a4, f_a4⟩ := x_a.al; clear q_e0 f_e0 q_e1 f_e1 q_e2 f_e2 q_e3 f_e3; obtain ⟨q_e0, f_e0, q_e1, f_e1, q_e2, f_e2, q_e3, f_e3⟩ := x_e.al; clear q_y0 f_y0 q_y1 f_y1 q_y2 f_y2 q_y3 f_y3; obtain ⟨q_y0, f_y0, q_y1, f_y1, q_y2, f_y2, q_y3, f_y3⟩ := x_y.al; clear q_x0 f_x0 q_x1 f_x1; obtain ⟨q_x0, f_x0, q_x1, f_x1⟩ := x_x.al; rw [HG3.out] at z6 ⊢; (try (obtain ⟨q_u0, f_u0, q_u1, f_u1⟩ := x_u.al))) | (go_at_call 73; (with_reducible refine (RUpZ_any (z_x.keep (below_alloc v59 (.cells #[.bool false, .slice none 0 0] 24))).drw.zr (h4.keep (below_alloc v59 (.cells #[.bool false, .slice none 0 0] 24))).drw HV0.out 146 (by omega) (by omega) (by omega)).mono ?_); rintro e v60 ⟨A6, n6, c6, rfl, z6, hb1⟩; replace hb1 := undrew hb1; have x_u := (Bx.new v59 false none 0 0).keep hb1; replace hb1 := bthen (below_alloc v59 (.cells #[.bool false, .slice none 0 0] 24)) hb1; replace hv := bthen hv hb1; have hvs_v60 := hv.size; replace x_a := x_a.keep hb1; replace x_r := x_r.keep hb1; replace x_e := x_e.keep hb1; replace x_y := x_y.keep hb1; replace x_x := x_x.keep hb1; replace h := h.keep hb1; replace h2 := h2.keep hb1; replace h3 := h3.keep hb1; replace h4 := h4.keep hb1; replace gzL := gzL.keep hb1; replace gzH := gzH.keep hb1; replace z_x := z_x.keep hb1; replace hb := bthen hb hb1; clear hb1; clear q_a0 f_a0 q_a1 f_a1 q_a2 f_a2 q_a3 f_a3 q_a4 f_a4; obtain ⟨q_a0, f_a0, q_a1, f_a1, q_a2, f_a2, q_a3, f_a3, q_a4, f_a4⟩ := x_a.al; clear q_e0 f_e0 q_e1 f_e1 q_e2 f_e2 q_e3 f_e3; obtain ⟨q_e0, f_e0, q_e1, f_e1, q_e2, f_e2, q_e3, f_e3⟩ := x_e.al; clear q_y0 f_y0 q_y1 f_y1 q_y2 f_y2 q_y3 f_y3; obtain ⟨q_y0, f_y0, q_y1, f_y1, q_y2, f_y2, q_y3, f_y3⟩ := x_y.al; clear q_x0 f_x0 q_x1 f_x1; obtain ⟨q_x0, f_x0, q_x1, f_x1⟩ := x_x.al; rw [HG3.out] at z6 ⊢; (try (obtain ⟨q_u0, f_u0, q_u1, f_u1⟩ := x_u.al))))
  all_goals go_wp2_with fail
  all_goals go_meet
  all_goals first | (with_reducible exact BnNew1.new hv z6) | (with_reducible exact BnNew1.put hv x_u (by omega) z6)
 obtain ⟨g61, Ax62, nx62, cx62, rfl, x_u, z_u, e_u, hb1⟩ := hcut
 clear hv
 replace x_a := x_a.keep hb1
 replace x_r := x_r.keep hb1
 replace x_e := x_e.keep hb1
 replace x_y := x_y.keep hb1
 replace x_x := x_x.keep hb1
 replace h := h.keep hb1
 replace h2 := h2.keep hb1
 replace h3 := h3.keep hb1
 replace h4 := h4.keep hb1
 replace gzL := gzL.keep hb1
 replace gzH := gzH.keep hb1
 replace z_x := z_x.keep hb1
 replace hb := bthen hb hb1
 clear hb1
 clear q_a0 f_a0 q_a1 f_a1 q_a2 f_a2 q_a3 f_a3 q_a4 f_a4; obtain ⟨q_a0, f_a0, q_a1, f_a1, q_a2, f_a2, q_a3, f_a3, q_a4, f_a4⟩ := x_a.al
 clear q_e0 f_e0 q_e1 f_e1 q_e2 f_e2 q_e3 f_e3; obtain ⟨q_e0, f_e0, q_e1, f_e1, q_e2, f_e2, q_e3, f_e3⟩ := x_e.al
 clear q_y0 f_y0 q_y1 f_y1 q_y2 f_y2 q_y3 f_y3; obtain ⟨q_y0, f_y0, q_y1, f_y1, q_y2, f_y2, q_y3, f_y3⟩ := x_y.al
 clear q_x0 f_x0 q_x1 f_x1; obtain ⟨q_x0, f_x0, q_x1, f_x1⟩ := x_x.al
 clear q_a0 f_a0 q_a1 f_a1 q_a2 f_a2 q_a3 f_a3 q_a4 f_a4 q_e0 f_e0 q_e1 f_e1 q_e2 f_e2 q_e3 f_e3 q_y0 f_y0 q_y1 f_y1 q_y2 f_y2 q_y3 f_y3 q_x0 f_x0 q_x1 f_x1
 generalize wc = v63 at *
 obtain ⟨q_a0, f_a0, q_a1, f_a1, q_a2, f_a2, q_a3, f_a3, q_a4, f_a4⟩ := x_a.al
 obtain ⟨q_e0, f_e0, q_e1, f_e1, q_e2, f_e2, q_e3, f_e3⟩ := x_e.al
 obtain ⟨q_y0, f_y0, q_y1, f_y1, q_y2, f_y2, q_y3, f_y3⟩ := x_y.al
 obtain ⟨q_x0, f_x0, q_x1, f_x1⟩ := x_x.al
 obtain ⟨q_u0, f_u0, q_u1, f_u1⟩ := x_u.al
 clear q_x0 f_x0 q_x1 f_x1
 clear q_y0 f_y0 q_y1 f_y1 q_y2 f_y2 q_y3 f_y3
 clear q_e0 f_e0 q_e1 f_e1 q_e2 f_e2 q_e3 f_e3
 clear q_a0 f_a0 q_a1 f_a1 q_a2 f_a2 q_a3 f_a3 q_a4 f_a4
 have ly_3 := x_y.lt
 go_wp2_with (at_builtin; refine wp_pushG (V := v63) rfl (.tmp 76) (.tmp 78) rfl rfl gzH (by simp) (by omega) z_u rfl ?_; intro sH4 v64 hcut)
 clear x_x z_x x_u z_u q_u0 f_u0 q_u1 f_u1
 have gzN := hcut.1; have hgr := hcut.2.1; have hnw := hcut.2.2; clear hcut
 have hapN := (hap.symm).nw gzL hnw
 replace gzL := gzL.gr hgr hap.symm
 clear hap; have hap := hapN.symm; clear hapN hnw
 replace x_a := x_a.gr hgr (gzH.ne (.inl (by omega)))
 replace x_r := x_r.gr hgr (gzH.ne (.inl (by omega)))
 replace x_e := x_e.gr hgr (gzH.ne (.inl (by omega)))
 replace x_y := x_y.gr hgr (gzH.ne (.inl (by omega)))
 replace h := h.gr hgr
 replace h2 := h2.gr hgr
 replace h3 := h3.gr hgr
 replace h4 := h4.gr hgr
 replace hb := Gr.below hb hb.size gzH hgr (by omega)
 clear gzH; have gzH := gzN; clear gzN hgr
 simp only [List.cons_append, List.nil_append] at gzH
 obtain ⟨q_a0, f_a0, q_a1, f_a1, q_a2, f_a2, q_a3, f_a3, q_a4, f_a4⟩ := x_a.al
 obtain ⟨q_e0, f_e0, q_e1, f_e1, q_e2, f_e2, q_e3, f_e3⟩ := x_e.al
 obtain ⟨q_y0, f_y0, q_y1, f_y1, q_y2, f_y2, q_y3, f_y3⟩ := x_y.al
 rw [rounds_succ]
 go_wp2_with fail
 rw [rounds_succ]
 obtain ⟨gL, cpL, AL0, nL0, cL0, AL1, nL1, cL1, AL2, nL2, cL2, AL3, nL3, cL3, rfl, hgL, SL, yL0, yL1, yL2, yL3⟩ := gzL.four
 clear gzL
 obtain ⟨gH, cpH, AH0, nH0, cH0, AH1, nH1, cH1, AH2, nH2, cH2, AH3, nH3, cH3, rfl, hgH, SH, yH0, yH1, yH2, yH3⟩ := gzH.four
 clear gzH
 clear hap
 clear q_e0 f_e0 q_e1 f_e1 q_e2 f_e2 q_e3 f_e3
 clear q_y0 f_y0 q_y1 f_y1 q_y2 f_y2 q_y3 f_y3
 obtain ⟨q_r0, f_r0, q_r1, f_r1, q_r2, f_r2, q_r3, f_r3, q_r4, f_r4⟩ := x_r.al
 go_wp2_with fail
 go_region_held3 (fun w' => w'.cell? ⟨w.heap.size, 0, none⟩ = some (.bool b) ∧ w'.cell? ⟨w.heap.size, 1, none⟩ = some (.slice A n c) ∧ w'.cell? ⟨w.heap.size, 2, none⟩ = some (.bool b2) ∧ w'.cell? ⟨w.heap.size, 3, none⟩ = some (.slice A2 n2 c2) ∧ w'.cell? ⟨w.heap.size, 4, none⟩ = some (.int .i64 q))
  (first | (with_reducible exact ⟨x_a.c0, x_a.c1, x_a.c2, x_a.c3, x_a.c4⟩) | (with_reducible exact ⟨(x_a.aside (by omega)).c0, (x_a.aside (by omega)).c1, (x_a.aside (by omega)).c2, (x_a.aside (by omega)).c3, (x_a.aside (by omega)).c4⟩) | (with_reducible exact ⟨((x_a.aside (by omega)).aside (by omega)).c0, ((x_a.aside (by omega)).aside (by omega)).c1, ((x_a.aside (by omega)).aside (by omega)).c2, ((x_a.aside (by omega)).aside (by omega)).c3, ((x_a.aside (by omega)).aside (by omega)).c4⟩) | (with_reducible exact ⟨(x_a.asideD (by omega)).c0, (x_a.asideD (by omega)).c1, (x_a.asideD (by omega)).c2, (x_a.asideD (by omega)).c3, (x_a.asideD (by omega)).c4⟩) | (with_reducible exact ⟨((x_a.asideD (by omega)).asideD (by omega)).c0, ((x_a.asideD (by omega)).asideD (by omega)).c1, ((x_a.asideD (by omega)).asideD (by omega)).c2, ((x_a.asideD (by omega)).asideD (by omega)).c3, ((x_a.asideD (by omega)).asideD (by omega)).c4⟩) | (with_reducible exact ⟨(x_a.asideL (by omega)).c0, (x_a.asideL (by omega)).c1, (x_a.asideL (by omega)).c2, (x_a.asideL (by omega)).c3, (x_a.asideL (by omega)).c4⟩) | (with_reducible exact ⟨((x_a.asideL (by omega)).asideL (by omega)).c0, ((x_a.asideL (by omega)).asideL (by omega)).c1, ((x_a.asideL (by omega)).asideL (by omega)).c2, ((x_a.asideL (by omega)).asideL (by omega)).c3, ((x_a.asideL (by omega)).asideL (by omega)).c4⟩) | go_keep)
  (first | (go_at_call 63; (with_reducible refine (least4_any SL.drw yL0.drw yL1.drw yL2.drw yL3.drw (by omega)).mono ?_); rintro e v65 ⟨A5, n5, c5, rfl, z5, hb1⟩; replace hb1 := undrew hb1; replace x_a := x_a.keep hb1; replace x_r := x_r.keep hb1; replace x_e := x_e.keep hb1; replace x_y := x_y.keep hb1; replace h := h.keep hb1; replace h2 := h2.keep hb1; replace h3 := h3.keep hb1; replace h4 := h4.keep hb1; replace SL := SL.keep hb1; replace yL0 := yL0.keep hb1; replace yL1 := yL1.keep hb1; replace yL2 := yL2.keep hb1; replace yL3 := yL3.keep hb1; replace SH := SH.keep hb1; replace yH0 := yH0.keep hb1; replace yH1 := yH1.keep hb1; replace yH2 := yH2.keep hb1; replace yH3 := yH3.keep hb1; replace hb := bthen hb hb1; clear hb1; clear q_a0 f_a0 q_a1 f_a1 q_a2 f_a2 q_a3 f_a3 q_a4 f_a4; obtain ⟨q_a0, f_a0, q_a1, f_a1, q_a2, f_a2, q_a3, f_a3, q_a4, f_a4⟩ := x_a.al; clear q_r0 f_r0 q_r1 f_r1 q_r2 f_r2 q_r3 f_r3 q_r4 f_r4; obtain ⟨q_r0, f_r0, q_r1, f_r1, q_r2, f_r2, q_r3, f_r3, q_r4, f_r4⟩ := x_r.al; rw [HMn.out] at z5 ⊢) | (go_at_call 64; (with_reducible refine (greatest4_any SH yH0 yH1 yH2 yH3 (by omega)).mono ?_); rintro e v66 ⟨A6, n6, c6, rfl, z6, hb1⟩; replace x_a := x_a.keep hb1; replace x_r := x_r.keep hb1; replace x_e := x_e.keep hb1; replace x_y := x_y.keep hb1; replace h := h.keep hb1; replace h2 := h2.keep hb1; replace h3 := h3.keep hb1; replace h4 := h4.keep hb1; replace SL := SL.keep hb1; replace yL0 := yL0.keep hb1; replace yL1 := yL1.keep hb1; replace yL2 := yL2.keep hb1; replace yL3 := yL3.keep hb1; replace SH := SH.keep hb1; replace yH0 := yH0.keep hb1; replace yH1 := yH1.keep hb1; replace yH2 := yH2.keep hb1; replace yH3 := yH3.keep hb1; replace z5 := z5.keep hb1; replace hb := bthen hb hb1; clear hb1; clear q_a0 f_a0 q_a1 f_a1 q_a2 f_a2 q_a3 f_a3 q_a4 f_a4; obtain ⟨q_a0, f_a0, q_a1, f_a1, q_a2, f_a2, q_a3, f_a3, q_a4, f_a4⟩ := x_a.al; clear q_r0 f_r0 q_r1 f_r1 q_r2 f_r2 q_r3 f_r3 q_r4 f_r4; obtain ⟨q_r0, f_r0, q_r1, f_r1, q_r2, f_r2, q_r3, f_r3, q_r4, f_r4⟩ := x_r.al; rw [HMx.out] at z6 ⊢))
 clear SL
 clear yL0
 clear yL1
 clear yL2
 clear yL3
 clear SH
 clear yH0
 clear yH1
 clear yH2
 clear yH3
 go_wp2
 replace x_a := x_a.asideL (b' := (ngB M)) (A' := A5) (n' := n5) (c' := c5) (p' := (ngB N)) (B' := A6) (m' := n6) (d' := c6) (e' := q) (g := w.heap.size + 1 + 1) (by omega)
 replace x_e := x_e.asideL (b' := (ngB M)) (A' := A5) (n' := n5) (c' := c5) (p' := (ngB N)) (B' := A6) (m' := n6) (d' := c6) (e' := q) (g := w.heap.size + 1 + 1) (by omega)
 replace x_y := x_y.asideL (b' := (ngB M)) (A' := A5) (n' := n5) (c' := c5) (p' := (ngB N)) (B' := A6) (m' := n6) (d' := c6) (e' := q) (g := w.heap.size + 1 + 1) (by omega)
 replace h := h.putL (b' := (ngB M)) (A' := A5) (n' := n5) (c' := c5) (p' := (ngB N)) (B' := A6) (m' := n6) (d' := c6) (e' := q) x_r
 replace h2 := h2.putL (b' := (ngB M)) (A' := A5) (n' := n5) (c' := c5) (p' := (ngB N)) (B' := A6) (m' := n6) (d' := c6) (e' := q) x_r
 replace h3 := h3.putL (b' := (ngB M)) (A' := A5) (n' := n5) (c' := c5) (p' := (ngB N)) (B' := A6) (m' := n6) (d' := c6) (e' := q) x_r
 replace h4 := h4.putL (b' := (ngB M)) (A' := A5) (n' := n5) (c' := c5) (p' := (ngB N)) (B' := A6) (m' := n6) (d' := c6) (e' := q) x_r
 replace z5 := z5.putL (b' := (ngB M)) (A' := A5) (n' := n5) (c' := c5) (p' := (ngB N)) (B' := A6) (m' := n6) (d' := c6) (e' := q) x_r
 replace z6 := z6.putL (b' := (ngB M)) (A' := A5) (n' := n5) (c' := c5) (p' := (ngB N)) (B' := A6) (m' := n6) (d' := c6) (e' := q) x_r
 replace hb := put_belowL (g := w.heap.size + 1 + 1) hb (by omega) (.bool (ngB M)) (.slice A5 n5 c5) (.bool (ngB N)) (.slice A6 n6 c6) (.int .i64 q)
 replace x_r := x_r.put (ngB M) A5 n5 c5 (ngB N) A6 n6 c6 q
 clear q_a0 f_a0 q_a1 f_a1 q_a2 f_a2 q_a3 f_a3 q_a4 f_a4 q_r0 f_r0 q_r1 f_r1 q_r2 f_r2 q_r3 f_r3 q_r4 f_r4
 generalize ((((v66.setCell ⟨w.heap.size + 1 + 1, 0, none⟩ (.bool (ngB M))).setCell ⟨w.heap.size + 1 + 1, 1, none⟩ (.slice A5 n5 c5)).setCell ⟨w.heap.size + 1 + 1, 2, none⟩ (.bool (ngB N))).setCell ⟨w.heap.size + 1 + 1, 3, none⟩ (.slice A6 n6 c6)).setCell ⟨w.heap.size + 1 + 1, 4, none⟩ (.int .i64 q) = v67 at *
 obtain ⟨q_a0, f_a0, q_a1, f_a1, q_a2, f_a2, q_a3, f_a3, q_a4, f_a4⟩ := x_a.al
 obtain ⟨q_r0, f_r0, q_r1, f_r1, q_r2, f_r2, q_r3, f_r3, q_r4, f_r4⟩ := x_r.al
 refine bodyPost_ret (v := .tuple #[.agg #[.bool (ngB M), .slice A5 n5 c5, .bool (ngB N), .slice A6 n6 c6, .int .i64 q], .int .i64 0]) (by simp [results, Tryz.results24, go_sem, q_r0, q_r1, q_r2, q_r3, q_r4]) rfl ?_
 exact ⟨_, _, _, _, _, _, rfl, z5, z6, hb⟩
end Go.Proofs.YtiigacddjihokaaGreatDoor
