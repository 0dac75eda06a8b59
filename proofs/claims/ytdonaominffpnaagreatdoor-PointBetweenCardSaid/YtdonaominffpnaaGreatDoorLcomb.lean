/-
 ball: matching, combine.
-/
import Derived.Test.YtdonaominffpnaaGreatDoorLclos
import Derived.Test.YtdonaominffpnaaGreatDoorEbox
namespace Go.Proofs.YtdonaominffpnaaGreatDoor
variable {A A2 A3 A4 : Option Addr} {U V X Y q r : Int} {b b2 b3 b4 : Bool} {c2 c3 c4 g j j2 j3 j4 n n2 n3 n4 : Nat} {w : World}
set_option maxRecDepth 100000
set_option maxHeartbeats 16000000
set_option linter.unusedVariables false
open Go.RowKit
theorem Zr.up {c k : Nat} (h : Zr w b A n c X j) (hk : j ≤ k) : Zr w b A n c X k := by
 obtain ⟨l, h1, h2, h3⟩ := h
 exact ⟨l, h1, h2, by omega⟩
def Sx (w : World) (g : Nat) (cs : Array Value) : Prop := w.heap[g]? = some (.cells cs 194 (0, 0))
theorem Sx.lt {cs : Array Value} (h : Sx w g cs) : g < w.heap.size := by
 rcases Nat.lt_or_ge g w.heap.size with hlt | hge
 ·exact hlt
 ·unfold Sx at h; rw [Array.getElem?_eq_none hge] at h; cases h
theorem Sx.c {cs : Array Value} (h : Sx w g cs) (i : Nat) (u : Value) (hu : cs[i]? = some u) : w.cell? ⟨g, i, none⟩ = some u := by rw [cell_of_row w g i _ _ (0, 0) h]; exact hu
theorem Sx.keep {w' : World} {cs : Array Value} (h : Sx w g cs) (hb : Below w.heap.size w w') : Sx w' g cs := (hb.block g h.lt).trans h
instance Sx.mv {g : Nat} {cs : Array Value} {v w : World} : Mv (Sx v g cs) v w (Sx w g cs) := ⟨fun h hb => Sx.keep h hb⟩
instance {g h : Nat} {cs : Array Value} {W v : World} : Ms (Sx W h cs) W v g (h ≠ g) (Sx v h cs) := ⟨fun s hg x => (s.block h hg).trans x⟩
def mtB (X Y q U V r : Int) : Bool := decide ((0 ≤ q ∧ q ≤ 2048 ∧ X ≤ Y) ∧ (0 ≤ r ∧ r ≤ 2048 ∧ U ≤ V) ∧ q = r)
theorem mtB_yes (h : (0 ≤ q ∧ q ≤ 2048 ∧ X ≤ Y) ∧ (0 ≤ r ∧ r ≤ 2048 ∧ U ≤ V) ∧ q = r) : mtB X Y q U V r = true := decide_eq_true h
theorem mtB_no (h : ¬ ((0 ≤ q ∧ q ≤ 2048 ∧ X ≤ Y) ∧ (0 ≤ r ∧ r ≤ 2048 ∧ U ≤ V) ∧ q = r)) : mtB X Y q U V r = false := dec_no h
def mnK (f : Int → Int → Int) (X Y U V : Int) : Nat → Int
 | 0 => f X U
 | 1 => min (f X U) (f X V)
 | 2 => min (min (f X U) (f X V)) (f Y U)
 | _ => mn4 f X Y U V
def mxK (f : Int → Int → Int) (X Y U V : Int) : Nat → Int
 | 0 => f X U
 | 1 => max (f X U) (f X V)
 | 2 => max (max (f X U) (f X V)) (f Y U)
 | _ => mx4 f X Y U V
def CbRel (w : World) (R : World → Prop) (gl gu : Nat) (M N : Int) (K : Nat) (wr : World) : Prop :=
 Below w.heap.size w wr ∧ R wr ∧ ∃ b A n c b' A' n' c', Bx wr gl b A n c ∧ Zr wr b A n c M K ∧ Bx wr gu b' A' n' c' ∧ Zr wr b' A' n' c' N K
theorem matching_any {c : Nat} (h : Zr w b A n c X j) (h2 : Zr w b2 A2 n2 c2 Y j2) (h3 : Zr w b3 A3 n3 c3 U j3) (h4 : Zr w b4 A4 n4 c4 V j4) (hj : j ≤ 1000000) (hj2 : j2 ≤ 1000000) (hj3 : j3 ≤ 1000000) (hj4 : j4 ≤ 1000000) :
  Calls Tryz.prog 218 #[.agg #[.bool b, .slice A n c, .bool b2, .slice A2 n2 c2, .int .i64 q], .agg #[.bool b3, .slice A3 n3 c3, .bool b4, .slice A4 n4 c4, .int .i64 r]] w fun e w' => e = .returned (.bool (mtB X Y q U V r)) ∧ Below w.heap.size w w' := by
 by_cases hr : 0 ≤ q ∧ q ≤ 2048 ∧ X ≤ Y
 ·have HR := Lib.hid (rB_yes hr)
  by_cases hs : 0 ≤ r ∧ r ≤ 2048 ∧ U ≤ V
  ·have HS := Lib.hid (rB_yes hs)
   by_cases hqr : q = r
   ·have HF := Lib.hid (mtB_yes ⟨hr, hs, hqr⟩)
    have HQR := Lib.hid hqr
    have hbe : (q == r) = true := by rw [hqr]; exact beq_self_eq_true r
    clear hr hs hqr
    go_enter Tryz.func218, Tryz.ntmps218
    go_wp2_with fail
    refine al2c fun v1 hb x_a x_d => ?_
    replace x_a := Lx.of x_a; replace x_d := Lx.of x_d
    obtain ⟨h, h2, h3, h4⟩ := mv4 hb h h2 h3 h4
    have q_a := x_a.al
    have q_d := x_d.al
    go_wp2_with fail
    with_reducible refine (Right_any h h2 (by omega) (by omega)).mono ?_
    rintro e v2 ⟨rfl, hb1⟩
    obtain ⟨x_a, x_d, h, h2, h3, h4, hb⟩ := mv7 hb1 x_a x_d h h2 h3 h4 hb
    clear hb1
    replace q_a := x_a.al
    replace q_d := x_d.al
    rw [HR.out]
    go_wp2_with fail
    with_reducible refine (Right_any h3 h4 (by omega) (by omega)).mono ?_
    rintro e v3 ⟨rfl, hb1⟩
    obtain ⟨x_a, x_d, h, h2, h3, h4, hb⟩ := mv7 hb1 x_a x_d h h2 h3 h4 hb
    clear hb1
    replace q_a := x_a.al
    replace q_d := x_d.al
    rw [HS.out]
    go_wp2
    go_ret
    first | exact ⟨qB_bool HF.out.symm, hb⟩ | exact ⟨qB_bool ((by simp [HQR.out] : _ = true).trans HF.out.symm), hb⟩
   ·have HF := Lib.hid (mtB_no (X := X) (Y := Y) (q := q) (U := U) (V := V) (r := r) (fun hc => hqr hc.2.2))
    have HQR := Lib.hid hqr
    have hbe : (q == r) = false := by simpa using hqr
    clear hr hs hqr
    go_enter Tryz.func218, Tryz.ntmps218
    go_wp2_with fail
    refine al2c fun v1 hb x_a x_d => ?_
    replace x_a := Lx.of x_a; replace x_d := Lx.of x_d
    obtain ⟨h, h2, h3, h4⟩ := mv4 hb h h2 h3 h4
    have q_a := x_a.al
    have q_d := x_d.al
    go_wp2_with fail
    with_reducible refine (Right_any h h2 (by omega) (by omega)).mono ?_
    rintro e v2 ⟨rfl, hb1⟩
    obtain ⟨x_a, x_d, h, h2, h3, h4, hb⟩ := mv7 hb1 x_a x_d h h2 h3 h4 hb
    clear hb1
    replace q_a := x_a.al
    replace q_d := x_d.al
    rw [HR.out]
    go_wp2_with fail
    with_reducible refine (Right_any h3 h4 (by omega) (by omega)).mono ?_
    rintro e v3 ⟨rfl, hb1⟩
    obtain ⟨x_a, x_d, h, h2, h3, h4, hb⟩ := mv7 hb1 x_a x_d h h2 h3 h4 hb
    clear hb1
    replace q_a := x_a.al
    replace q_d := x_d.al
    rw [HS.out]
    go_wp2
    go_ret
    first | exact ⟨qB_bool HF.out.symm, hb⟩ | exact ⟨qB_bool ((by simp [HQR.out] : _ = false).trans HF.out.symm), hb⟩
  ·have HS := Lib.hid (rB_no hs)
   have HF := Lib.hid (mtB_no (X := X) (Y := Y) (q := q) (U := U) (V := V) (r := r) (fun hc => hs hc.2.1))
   clear hr hs
   go_enter Tryz.func218, Tryz.ntmps218
   go_wp2_with fail
   refine al2c fun v1 hb x_a x_d => ?_
   replace x_a := Lx.of x_a; replace x_d := Lx.of x_d
   obtain ⟨h, h2, h3, h4⟩ := mv4 hb h h2 h3 h4
   have q_a := x_a.al
   have q_d := x_d.al
   go_wp2_with fail
   with_reducible refine (Right_any h h2 (by omega) (by omega)).mono ?_
   rintro e v2 ⟨rfl, hb1⟩
   obtain ⟨x_a, x_d, h, h2, h3, h4, hb⟩ := mv7 hb1 x_a x_d h h2 h3 h4 hb
   clear hb1
   replace q_a := x_a.al
   replace q_d := x_d.al
   rw [HR.out]
   go_wp2_with fail
   with_reducible refine (Right_any h3 h4 (by omega) (by omega)).mono ?_
   rintro e v3 ⟨rfl, hb1⟩
   obtain ⟨x_a, x_d, h, h2, h3, h4, hb⟩ := mv7 hb1 x_a x_d h h2 h3 h4 hb
   clear hb1
   replace q_a := x_a.al
   replace q_d := x_d.al
   rw [HS.out]
   go_wp2
   go_ret
   exact ⟨qB_bool HF.out.symm, hb⟩
 ·have HR := Lib.hid (rB_no hr)
  have HF := Lib.hid (mtB_no (X := X) (Y := Y) (q := q) (U := U) (V := V) (r := r) (fun hc => hr hc.1))
  clear hr
  go_enter Tryz.func218, Tryz.ntmps218
  go_wp2_with fail
  refine al2c fun v1 hb x_a x_d => ?_
  replace x_a := Lx.of x_a; replace x_d := Lx.of x_d
  obtain ⟨h, h2, h3, h4⟩ := mv4 hb h h2 h3 h4
  have q_a := x_a.al
  have q_d := x_d.al
  go_wp2_with fail
  with_reducible refine (Right_any h h2 (by omega) (by omega)).mono ?_
  rintro e v2 ⟨rfl, hb1⟩
  obtain ⟨x_a, x_d, h, h2, h3, h4, hb⟩ := mv7 hb1 x_a x_d h h2 h3 h4 hb
  clear hb1
  replace q_a := x_a.al
  replace q_d := x_d.al
  rw [HR.out]
  go_wp2
  go_ret
  exact ⟨qB_bool HF.out.symm, hb⟩
theorem combine_any {c : Nat} (h : Zr w b A n c X j) (h2 : Zr w b2 A2 n2 c2 Y j2) (h3 : Zr w b3 A3 n3 c3 U j3) (h4 : Zr w b4 A4 n4 c4 V j4) (hv : 0 ≤ q ∧ q ≤ 2048 ∧ X ≤ Y) (hv2 : U ≤ V) {fid : Nat} {caps : Array Value} (hent : ∀ (args : Array Value) (w : World), (callFunc fid args).run Tryz.prog w = .ok (.enter fid args) w)
  (dn up : Int → Int → Int) (J K : Nat) (hJ : j ≤ J) (hJ2 : j2 ≤ J) (hJ3 : j3 ≤ J) (hJ4 : j4 ≤ J) (hJ5 : J ≤ 1000000) (hK : K ≤ 1000000)
  (hat : ∀ (w' : World) (b : Bool) (A : Option Addr) (n c : Nat) (b2 : Bool) (A2 : Option Addr) (n2 c2 : Nat) (x y : Int), Below w.heap.size w w' → Zr w' b A n c x J → Zr w' b2 A2 n2 c2 y J → (y = U ∨ y = V) →
   Calls Tryz.prog fid (#[.agg #[.bool b, .slice A n c], .agg #[.bool b2, .slice A2 n2 c2]] ++ caps) w' (Out2Z w' (dn x y) (up x y) K)) :
  Calls Tryz.prog 220 #[.agg #[.bool b, .slice A n c, .bool b2, .slice A2 n2 c2, .int .i64 q], .agg #[.bool b3, .slice A3 n3 c3, .bool b4, .slice A4 n4 c4, .int .i64 q], .func (.func fid) #[] caps] w (OuL w (mn4 dn X Y U V) (mx4 up X Y U V) q K) := by
 replace h := h.up (k := J) hJ; replace h2 := h2.up (k := J) hJ2; replace h3 := h3.up (k := J) hJ3; replace h4 := h4.up (k := J) hJ4
 clear hJ hJ2 hJ3 hJ4
 have HM := Lib.hid (mtB_yes (r := q) ⟨hv, ⟨hv.1, hv.2.1, hv2⟩, rfl⟩)
 have HAT := Lib.hid hat; have H1 := Lib.hid h; have H2 := Lib.hid h2; have H3 := Lib.hid h3; have H4 := Lib.hid h4
 clear hat hv hv2
 obtain ⟨M0, hM0⟩ : ∃ M, mn4 dn X Y U V = M := ⟨_, rfl⟩
 obtain ⟨N0, hN0⟩ : ∃ N, mx4 up X Y U V = N := ⟨_, rfl⟩
 rw [hM0, hN0]
 have HM0 := Lib.hid hM0; have HN0 := Lib.hid hN0; clear hM0 hN0
 go_enter Tryz.func220, Tryz.ntmps220
 go_wp2_with fail
 refine al3c fun v1 hb x_a x_d x_r => ?_
 replace x_a := Lx.of x_a; replace x_d := Lx.of x_d; replace x_r := Lx.of x_r
 obtain ⟨h, h2, h3, h4⟩ := mv4 hb h h2 h3 h4
 have q_a := x_a.al
 have q_d := x_d.al
 have q_r := x_r.al
 go_wp2_with fail
 with_reducible refine (matching_any h h2 h3 h4 hJ5 hJ5 hJ5 hJ5).mono ?_
 rintro e v2 ⟨rfl, hb1⟩
 obtain ⟨x_a, x_d, x_r, h, h2, h3, h4, hb⟩ := mv8 hb1 x_a x_d x_r h h2 h3 h4 hb
 clear hb1
 replace q_a := x_a.al
 replace q_d := x_d.al
 replace q_r := x_r.al
 rw [HM.out]
 go_wp2_with fail
 with_reducible refine (HAT.out _ _ _ _ _ _ _ _ _ X U hb h h3 (Or.inl rfl)).mono ?_
 rintro e v3 ⟨A5, n5, c5, A6, n6, c6, rfl, z5, z6, hb1⟩
 obtain ⟨x_a, x_d, x_r, h, h2, h3, h4, hb⟩ := mv8 hb1 x_a x_d x_r h h2 h3 h4 hb
 clear hb1
 replace q_a := x_a.al
 replace q_d := x_d.al
 replace q_r := x_r.al
 have y_a := (((x_a.alloc (.cells #[.bool (ngB (dn X U)), .slice A5 n5 c5] 24)).alloc (.cells #[.bool (ngB (up X U)), .slice A6 n6 c6] 24))).al
 have y_d := (((x_d.alloc (.cells #[.bool (ngB (dn X U)), .slice A5 n5 c5] 24)).alloc (.cells #[.bool (ngB (up X U)), .slice A6 n6 c6] 24))).al
 have y_r := (((x_r.alloc (.cells #[.bool (ngB (dn X U)), .slice A5 n5 c5] 24)).alloc (.cells #[.bool (ngB (up X U)), .slice A6 n6 c6] 24))).al
 go_wp2_with fail
 clear y_a y_d y_r
 have l_a_l := x_a.lt
 have l_d_l := x_d.lt
 have l_r_l := x_r.lt
 have e_l : w.heap.size ≤ v3.heap.size := hb.size
 clear q_a q_d q_r
 refine al3 fun v4 hb1 x_l x_u x_s => ?_
 replace x_l := Bx.of x_l; replace x_u := Bx.of x_u
 obtain ⟨x_a, x_d, x_r, h, h2, h3, h4, z5, z6⟩ := mv9 hb1 x_a x_d x_r h h2 h3 h4 z5 z6
 replace hb := Mv.mv hb hb1
 clear hb1
 have q_a := x_a.al
 have q_d := x_d.al
 have q_r := x_r.al
 have q_l := x_l.al
 have q_u := x_u.al
 replace x_s : Sx v4 (v3.heap.size + 1 + 1) #[.bool b, .slice A n c, .bool b4, .slice A4 n4 c4, .bool b2, .slice A2 n2 c2, .bool b3, .slice A3 n3 c3, .bool b2, .slice A2 n2 c2, .bool b4, .slice A4 n4 c4] := x_s
 have hl_r := x_r.lt; have hl_u := x_u.lt
 clear q_a q_d q_r q_l q_u
 clear h h2 h3 h4
 have hsep : w.heap.size + 1 + 1 < v3.heap.size := by have := e_l; have := l_r_l; omega
 have hrel0 : CbRel w (fun wq => Lx wq w.heap.size b A n c b2 A2 n2 c2 q ∧ Lx wq (w.heap.size + 1) b3 A3 n3 c3 b4 A4 n4 c4 q ∧ Lx wq (w.heap.size + 1 + 1) false none 0 0 false none 0 0 0 ∧ Sx wq (v3.heap.size + 1 + 1) #[.bool b, .slice A n c, .bool b4, .slice A4 n4 c4, .bool b2, .slice A2 n2 c2, .bool b3, .slice A3 n3 c3, .bool b2, .slice A2 n2 c2, .bool b4, .slice A4 n4 c4]) (v3.heap.size) (v3.heap.size + 1) (mnK dn X Y U V 0) (mxK up X Y U V 0) K v4 := ⟨hb, ⟨x_a, x_d, x_r, x_s⟩, _, _, _, _, _, _, _, _, x_l, z5.zr, x_u, z6.zr⟩
 clear hb x_a x_d x_r x_s x_l x_u z5 z6 hl_r hl_u
 go_loopw [45] (fun iv wr => ∃ k : Nat, k ≤ 3 ∧ iv = .int .i64 k ∧ CbRel w (fun wq => Lx wq w.heap.size b A n c b2 A2 n2 c2 q ∧ Lx wq (w.heap.size + 1) b3 A3 n3 c3 b4 A4 n4 c4 q ∧ Lx wq (w.heap.size + 1 + 1) false none 0 0 false none 0 0 0 ∧ Sx wq (v3.heap.size + 1 + 1) #[.bool b, .slice A n c, .bool b4, .slice A4 n4 c4, .bool b2, .slice A2 n2 c2, .bool b3, .slice A3 n3 c3, .bool b2, .slice A2 n2 c2, .bool b4, .slice A4 n4 c4]) (v3.heap.size) (v3.heap.size + 1) (mnK dn X Y U V k) (mxK up X Y U V k) K wr) (fun iv _ => 3 - (intOf iv).toNat)
 case atStart => exact ⟨0, by omega, rfl, hrel0⟩
 case round =>
  clear hrel0
  obtain ⟨k, hk, rfl, hb, ⟨x_a, x_d, x_r, x_s⟩, bl_, Al_, nl_, cl_, bu_, Au_, nu_, cu_, x_l, zl, x_u, zu⟩ := hrel
  have h := H1.out.keep hb; have h2 := H2.out.keep hb; have h3 := H3.out.keep hb; have h4 := H4.out.keep hb
  rcases (show k = 0 ∨ k = 1 ∨ k = 2 ∨ k = 3 by omega) with rfl | rfl | rfl | rfl
  ·obtain ⟨M, hM⟩ : ∃ M, mnK dn X Y U V 0 = M := ⟨_, rfl⟩
   obtain ⟨N, hN⟩ : ∃ N, mxK up X Y U V 0 = N := ⟨_, rfl⟩
   rw [hM] at zl; rw [hN] at zu
   have hM2 : mnK dn X Y U V 1 = min M (dn X V) := by rw [← hM]; rfl
   have hN2 : mxK up X Y U V 1 = max N (up X V) := by rw [← hN]; rfl
   clear hM hN
   obtain ⟨C1, hC1⟩ : ∃ C, sgnI (dn X V - M) = C := ⟨_, rfl⟩
   obtain ⟨C2, hC2⟩ : ∃ C, sgnI (up X V - N) = C := ⟨_, rfl⟩
   have i1 := sgnI_lt0 (X := dn X V - M)
   have i2 := sgnI_gt0 (X := up X V - N)
   rw [hC1] at i1; rw [hC2] at i2
   have HC1 := Lib.hid hC1; have HC2 := Lib.hid hC2; clear hC1 hC2
   rcases (show (C1 < 0 ∧ mnK dn X Y U V 1 = dn X V) ∨ (0 ≤ C1 ∧ mnK dn X Y U V 1 = M) by rw [hM2]; omega) with ⟨d1, m1⟩ | ⟨d1, m1⟩ <;> rcases (show (0 < C2 ∧ mxK up X Y U V 1 = up X V) ∨ (C2 ≤ 0 ∧ mxK up X Y U V 1 = N) by rw [hN2]; omega) with ⟨d2, m2⟩ | ⟨d2, m2⟩
   ·have HM1 := Lib.hid m1; have HM2 := Lib.hid m2; clear m1 m2 i1 i2 hM2 hN2
    have q_l := x_l.al
    have q_u := x_u.al
    have s_0 := x_s.c 0 (.bool b) rfl
    have s_1 := x_s.c 1 (.slice A n c) rfl
    have s_2 := x_s.c 2 (.bool b4) rfl
    have s_3 := x_s.c 3 (.slice A4 n4 c4) rfl
    go_wp2_with fail
    clear s_0 s_1 s_2 s_3
    have l_a_e := x_a.lt
    have l_d_e := x_d.lt
    have l_r_e := x_r.lt
    have l_l_e := x_l.lt
    have l_u_e := x_u.lt
    have e_e : w.heap.size ≤ wr.heap.size := hb.size
    clear q_l q_u
    refine al1c fun v5 hb1 x_e => ?_
    replace x_e := Ex.of x_e
    obtain ⟨x_a, x_d, x_r, x_l, x_u, h, h2, h3, h4⟩ := mv9 hb1 x_a x_d x_r x_l x_u h h2 h3 h4
    obtain ⟨zl, zu, x_s, hb⟩ := mv4 hb1 zl zu x_s hb
    clear hb1
    have q_l := x_l.al
    have q_u := x_u.al
    have q_e := x_e.al
    have hbx := hb
    skip
    with_reducible refine (HAT.out _ _ _ _ _ _ _ _ _ X V hb h h4 (Or.inr rfl)).mono ?_
    rintro e v6 ⟨A7, n7, c7, A8, n8, c8, rfl, z7, z8, hb1⟩
    obtain ⟨x_a, x_d, x_r, x_l, x_u, x_e, h, h2, h3⟩ := mv9 hb1 x_a x_d x_r x_l x_u x_e h h2 h3
    obtain ⟨h4, zl, zu, x_s, hb⟩ := mv5 hb1 h4 zl zu x_s hb
    clear hb1
    replace q_l := x_l.al
    replace q_u := x_u.al
    replace q_e := x_e.al
    clear hbx
    clear h h2 h3 h4
    clear q_e
    have y_l := (((x_l.alloc (.cells #[.bool (ngB (dn X V)), .slice A7 n7 c7] 24)).alloc (.cells #[.bool (ngB (up X V)), .slice A8 n8 c8] 24))).al
    have y_u := (((x_u.alloc (.cells #[.bool (ngB (dn X V)), .slice A7 n7 c7] 24)).alloc (.cells #[.bool (ngB (up X V)), .slice A8 n8 c8] 24))).al
    go_wp2_with fail
    clear y_l y_u
    have l_a_p := x_a.lt
    have l_d_p := x_d.lt
    have l_r_p := x_r.lt
    have l_l_p := x_l.lt
    have l_u_p := x_u.lt
    have l_e_p := x_e.lt
    have e_p : w.heap.size ≤ v6.heap.size := hb.size
    clear q_l q_u
    refine al2c fun v7 hb1 x_p x_t => ?_
    replace x_p := Bx.of x_p; replace x_t := Bx.of x_t
    obtain ⟨x_a, x_d, x_r, x_l, x_u, x_e, zl, zu, x_s⟩ := mv9 hb1 x_a x_d x_r x_l x_u x_e zl zu x_s
    obtain ⟨z7, z8, hb⟩ := mv3 hb1 z7 z8 hb
    clear hb1
    have q_l := x_l.al
    have q_u := x_u.al
    have q_p := x_p.al
    have q_t := x_t.al
    skip
    with_reducible refine (ZCmp_any z7.zr zl (by omega) (by omega)).mono ?_
    rintro e v8 ⟨rfl, hb1⟩
    obtain ⟨x_a, x_d, x_r, x_l, x_u, x_e, x_p, x_t, zl⟩ := mv9 hb1 x_a x_d x_r x_l x_u x_e x_p x_t zl
    obtain ⟨zu, x_s, z7, z8, hb⟩ := mv5 hb1 zu x_s z7 z8 hb
    clear hb1
    replace q_l := x_l.al
    replace q_u := x_u.al
    replace q_p := x_p.al
    replace q_t := x_t.al
    rw [HC1.out]
    go_wp2_with fail
    clear q_l q_u q_p q_t
    refine x_l.stc fun v9 hs hx => ?_
    obtain ⟨x_a, x_d, x_r, x_u, x_e, x_p, x_t, zl, zu⟩ := ms9 hs ⟨by omega, by omega, by omega, by omega, by omega, by omega, by omega, trivial, trivial⟩ x_a x_d x_r x_u x_e x_p x_t zl zu
    obtain ⟨x_s, z7, z8, hb⟩ := ms4 hs ⟨by omega, trivial, trivial, by omega⟩ x_s z7 z8 hb
    replace x_l := hx; clear hx hs
    have q_l := x_l.al
    have q_u := x_u.al
    have q_p := x_p.al
    have q_t := x_t.al
    skip
    with_reducible refine (ZCmp_any z8.zr zu (by omega) (by omega)).mono ?_
    rintro e v10 ⟨rfl, hb1⟩
    obtain ⟨x_a, x_d, x_r, x_l, x_u, x_e, x_p, x_t, zl⟩ := mv9 hb1 x_a x_d x_r x_l x_u x_e x_p x_t zl
    obtain ⟨zu, x_s, z7, z8, hb⟩ := mv5 hb1 zu x_s z7 z8 hb
    clear hb1
    replace q_l := x_l.al
    replace q_u := x_u.al
    replace q_p := x_p.al
    replace q_t := x_t.al
    rw [HC2.out]
    go_wp2
    refine ⟨⟨1, by omega, by go_num, ?_⟩, by simp [intOf]⟩
    clear q_l q_u q_p q_t
    refine x_u.st fun v11 hs hx => ?_
    obtain ⟨x_a, x_d, x_r, x_l, x_e, x_p, x_t, zl, zu⟩ := ms9 hs ⟨by omega, by omega, by omega, by omega, by omega, by omega, by omega, trivial, trivial⟩ x_a x_d x_r x_l x_e x_p x_t zl zu
    obtain ⟨x_s, z7, z8, hb⟩ := ms4 hs ⟨by omega, trivial, trivial, by omega⟩ x_s z7 z8 hb
    replace x_u := hx; clear hx hs
    have q_l := x_l.al
    have q_u := x_u.al
    have q_p := x_p.al
    have q_t := x_t.al
    exact ⟨hb, ⟨x_a, x_d, x_r, x_s⟩, _, _, _, _, _, _, _, _, x_l, by rw [HM1.out]; exact z7.zr, x_u, by rw [HM2.out]; exact z8.zr⟩
   ·have HM1 := Lib.hid m1; have HM2 := Lib.hid m2; clear m1 m2 i1 i2 hM2 hN2
    have q_l := x_l.al
    have q_u := x_u.al
    have s_0 := x_s.c 0 (.bool b) rfl
    have s_1 := x_s.c 1 (.slice A n c) rfl
    have s_2 := x_s.c 2 (.bool b4) rfl
    have s_3 := x_s.c 3 (.slice A4 n4 c4) rfl
    go_wp2_with fail
    clear s_0 s_1 s_2 s_3
    have l_a_e := x_a.lt
    have l_d_e := x_d.lt
    have l_r_e := x_r.lt
    have l_l_e := x_l.lt
    have l_u_e := x_u.lt
    have e_e : w.heap.size ≤ wr.heap.size := hb.size
    clear q_l q_u
    refine al1c fun v5 hb1 x_e => ?_
    replace x_e := Ex.of x_e
    obtain ⟨x_a, x_d, x_r, x_l, x_u, h, h2, h3, h4⟩ := mv9 hb1 x_a x_d x_r x_l x_u h h2 h3 h4
    obtain ⟨zl, zu, x_s, hb⟩ := mv4 hb1 zl zu x_s hb
    clear hb1
    have q_l := x_l.al
    have q_u := x_u.al
    have q_e := x_e.al
    have hbx := hb
    skip
    with_reducible refine (HAT.out _ _ _ _ _ _ _ _ _ X V hb h h4 (Or.inr rfl)).mono ?_
    rintro e v6 ⟨A7, n7, c7, A8, n8, c8, rfl, z7, z8, hb1⟩
    obtain ⟨x_a, x_d, x_r, x_l, x_u, x_e, h, h2, h3⟩ := mv9 hb1 x_a x_d x_r x_l x_u x_e h h2 h3
    obtain ⟨h4, zl, zu, x_s, hb⟩ := mv5 hb1 h4 zl zu x_s hb
    clear hb1
    replace q_l := x_l.al
    replace q_u := x_u.al
    replace q_e := x_e.al
    clear hbx
    clear h h2 h3 h4
    clear q_e
    have y_l := (((x_l.alloc (.cells #[.bool (ngB (dn X V)), .slice A7 n7 c7] 24)).alloc (.cells #[.bool (ngB (up X V)), .slice A8 n8 c8] 24))).al
    have y_u := (((x_u.alloc (.cells #[.bool (ngB (dn X V)), .slice A7 n7 c7] 24)).alloc (.cells #[.bool (ngB (up X V)), .slice A8 n8 c8] 24))).al
    go_wp2_with fail
    clear y_l y_u
    have l_a_p := x_a.lt
    have l_d_p := x_d.lt
    have l_r_p := x_r.lt
    have l_l_p := x_l.lt
    have l_u_p := x_u.lt
    have l_e_p := x_e.lt
    have e_p : w.heap.size ≤ v6.heap.size := hb.size
    clear q_l q_u
    refine al2c fun v7 hb1 x_p x_t => ?_
    replace x_p := Bx.of x_p; replace x_t := Bx.of x_t
    obtain ⟨x_a, x_d, x_r, x_l, x_u, x_e, zl, zu, x_s⟩ := mv9 hb1 x_a x_d x_r x_l x_u x_e zl zu x_s
    obtain ⟨z7, z8, hb⟩ := mv3 hb1 z7 z8 hb
    clear hb1
    have q_l := x_l.al
    have q_u := x_u.al
    have q_p := x_p.al
    have q_t := x_t.al
    skip
    with_reducible refine (ZCmp_any z7.zr zl (by omega) (by omega)).mono ?_
    rintro e v8 ⟨rfl, hb1⟩
    obtain ⟨x_a, x_d, x_r, x_l, x_u, x_e, x_p, x_t, zl⟩ := mv9 hb1 x_a x_d x_r x_l x_u x_e x_p x_t zl
    obtain ⟨zu, x_s, z7, z8, hb⟩ := mv5 hb1 zu x_s z7 z8 hb
    clear hb1
    replace q_l := x_l.al
    replace q_u := x_u.al
    replace q_p := x_p.al
    replace q_t := x_t.al
    rw [HC1.out]
    go_wp2_with fail
    clear q_l q_u q_p q_t
    refine x_l.stc fun v9 hs hx => ?_
    obtain ⟨x_a, x_d, x_r, x_u, x_e, x_p, x_t, zl, zu⟩ := ms9 hs ⟨by omega, by omega, by omega, by omega, by omega, by omega, by omega, trivial, trivial⟩ x_a x_d x_r x_u x_e x_p x_t zl zu
    obtain ⟨x_s, z7, z8, hb⟩ := ms4 hs ⟨by omega, trivial, trivial, by omega⟩ x_s z7 z8 hb
    replace x_l := hx; clear hx hs
    have q_l := x_l.al
    have q_u := x_u.al
    have q_p := x_p.al
    have q_t := x_t.al
    skip
    with_reducible refine (ZCmp_any z8.zr zu (by omega) (by omega)).mono ?_
    rintro e v10 ⟨rfl, hb1⟩
    obtain ⟨x_a, x_d, x_r, x_l, x_u, x_e, x_p, x_t, zl⟩ := mv9 hb1 x_a x_d x_r x_l x_u x_e x_p x_t zl
    obtain ⟨zu, x_s, z7, z8, hb⟩ := mv5 hb1 zu x_s z7 z8 hb
    clear hb1
    replace q_l := x_l.al
    replace q_u := x_u.al
    replace q_p := x_p.al
    replace q_t := x_t.al
    rw [HC2.out]
    go_wp2
    go_roundw
    case rel => exact ⟨1, by omega, by go_num, hb, ⟨x_a, x_d, x_r, x_s⟩, _, _, _, _, _, _, _, _, x_l, by rw [HM1.out]; exact z7.zr, x_u, by rw [HM2.out]; exact zu⟩
    case measure => simp [intOf]
   ·have HM1 := Lib.hid m1; have HM2 := Lib.hid m2; clear m1 m2 i1 i2 hM2 hN2
    have q_l := x_l.al
    have q_u := x_u.al
    have s_0 := x_s.c 0 (.bool b) rfl
    have s_1 := x_s.c 1 (.slice A n c) rfl
    have s_2 := x_s.c 2 (.bool b4) rfl
    have s_3 := x_s.c 3 (.slice A4 n4 c4) rfl
    go_wp2_with fail
    clear s_0 s_1 s_2 s_3
    have l_a_e := x_a.lt
    have l_d_e := x_d.lt
    have l_r_e := x_r.lt
    have l_l_e := x_l.lt
    have l_u_e := x_u.lt
    have e_e : w.heap.size ≤ wr.heap.size := hb.size
    clear q_l q_u
    refine al1c fun v5 hb1 x_e => ?_
    replace x_e := Ex.of x_e
    obtain ⟨x_a, x_d, x_r, x_l, x_u, h, h2, h3, h4⟩ := mv9 hb1 x_a x_d x_r x_l x_u h h2 h3 h4
    obtain ⟨zl, zu, x_s, hb⟩ := mv4 hb1 zl zu x_s hb
    clear hb1
    have q_l := x_l.al
    have q_u := x_u.al
    have q_e := x_e.al
    have hbx := hb
    skip
    with_reducible refine (HAT.out _ _ _ _ _ _ _ _ _ X V hb h h4 (Or.inr rfl)).mono ?_
    rintro e v6 ⟨A7, n7, c7, A8, n8, c8, rfl, z7, z8, hb1⟩
    obtain ⟨x_a, x_d, x_r, x_l, x_u, x_e, h, h2, h3⟩ := mv9 hb1 x_a x_d x_r x_l x_u x_e h h2 h3
    obtain ⟨h4, zl, zu, x_s, hb⟩ := mv5 hb1 h4 zl zu x_s hb
    clear hb1
    replace q_l := x_l.al
    replace q_u := x_u.al
    replace q_e := x_e.al
    clear hbx
    clear h h2 h3 h4
    clear q_e
    have y_l := (((x_l.alloc (.cells #[.bool (ngB (dn X V)), .slice A7 n7 c7] 24)).alloc (.cells #[.bool (ngB (up X V)), .slice A8 n8 c8] 24))).al
    have y_u := (((x_u.alloc (.cells #[.bool (ngB (dn X V)), .slice A7 n7 c7] 24)).alloc (.cells #[.bool (ngB (up X V)), .slice A8 n8 c8] 24))).al
    go_wp2_with fail
    clear y_l y_u
    have l_a_p := x_a.lt
    have l_d_p := x_d.lt
    have l_r_p := x_r.lt
    have l_l_p := x_l.lt
    have l_u_p := x_u.lt
    have l_e_p := x_e.lt
    have e_p : w.heap.size ≤ v6.heap.size := hb.size
    clear q_l q_u
    refine al2c fun v7 hb1 x_p x_t => ?_
    replace x_p := Bx.of x_p; replace x_t := Bx.of x_t
    obtain ⟨x_a, x_d, x_r, x_l, x_u, x_e, zl, zu, x_s⟩ := mv9 hb1 x_a x_d x_r x_l x_u x_e zl zu x_s
    obtain ⟨z7, z8, hb⟩ := mv3 hb1 z7 z8 hb
    clear hb1
    have q_l := x_l.al
    have q_u := x_u.al
    have q_p := x_p.al
    have q_t := x_t.al
    skip
    with_reducible refine (ZCmp_any z7.zr zl (by omega) (by omega)).mono ?_
    rintro e v8 ⟨rfl, hb1⟩
    obtain ⟨x_a, x_d, x_r, x_l, x_u, x_e, x_p, x_t, zl⟩ := mv9 hb1 x_a x_d x_r x_l x_u x_e x_p x_t zl
    obtain ⟨zu, x_s, z7, z8, hb⟩ := mv5 hb1 zu x_s z7 z8 hb
    clear hb1
    replace q_l := x_l.al
    replace q_u := x_u.al
    replace q_p := x_p.al
    replace q_t := x_t.al
    rw [HC1.out]
    go_wp2_with fail
    with_reducible refine (ZCmp_any z8.zr zu (by omega) (by omega)).mono ?_
    rintro e v9 ⟨rfl, hb1⟩
    obtain ⟨x_a, x_d, x_r, x_l, x_u, x_e, x_p, x_t, zl⟩ := mv9 hb1 x_a x_d x_r x_l x_u x_e x_p x_t zl
    obtain ⟨zu, x_s, z7, z8, hb⟩ := mv5 hb1 zu x_s z7 z8 hb
    clear hb1
    replace q_l := x_l.al
    replace q_u := x_u.al
    replace q_p := x_p.al
    replace q_t := x_t.al
    rw [HC2.out]
    go_wp2
    refine ⟨⟨1, by omega, by go_num, ?_⟩, by simp [intOf]⟩
    clear q_l q_u q_p q_t
    refine x_u.st fun v10 hs hx => ?_
    obtain ⟨x_a, x_d, x_r, x_l, x_e, x_p, x_t, zl, zu⟩ := ms9 hs ⟨by omega, by omega, by omega, by omega, by omega, by omega, by omega, trivial, trivial⟩ x_a x_d x_r x_l x_e x_p x_t zl zu
    obtain ⟨x_s, z7, z8, hb⟩ := ms4 hs ⟨by omega, trivial, trivial, by omega⟩ x_s z7 z8 hb
    replace x_u := hx; clear hx hs
    have q_l := x_l.al
    have q_u := x_u.al
    have q_p := x_p.al
    have q_t := x_t.al
    exact ⟨hb, ⟨x_a, x_d, x_r, x_s⟩, _, _, _, _, _, _, _, _, x_l, by rw [HM1.out]; exact zl, x_u, by rw [HM2.out]; exact z8.zr⟩
   ·have HM1 := Lib.hid m1; have HM2 := Lib.hid m2; clear m1 m2 i1 i2 hM2 hN2
    have q_l := x_l.al
    have q_u := x_u.al
    have s_0 := x_s.c 0 (.bool b) rfl
    have s_1 := x_s.c 1 (.slice A n c) rfl
    have s_2 := x_s.c 2 (.bool b4) rfl
    have s_3 := x_s.c 3 (.slice A4 n4 c4) rfl
    go_wp2_with fail
    clear s_0 s_1 s_2 s_3
    have l_a_e := x_a.lt
    have l_d_e := x_d.lt
    have l_r_e := x_r.lt
    have l_l_e := x_l.lt
    have l_u_e := x_u.lt
    have e_e : w.heap.size ≤ wr.heap.size := hb.size
    clear q_l q_u
    refine al1c fun v5 hb1 x_e => ?_
    replace x_e := Ex.of x_e
    obtain ⟨x_a, x_d, x_r, x_l, x_u, h, h2, h3, h4⟩ := mv9 hb1 x_a x_d x_r x_l x_u h h2 h3 h4
    obtain ⟨zl, zu, x_s, hb⟩ := mv4 hb1 zl zu x_s hb
    clear hb1
    have q_l := x_l.al
    have q_u := x_u.al
    have q_e := x_e.al
    have hbx := hb
    skip
    with_reducible refine (HAT.out _ _ _ _ _ _ _ _ _ X V hb h h4 (Or.inr rfl)).mono ?_
    rintro e v6 ⟨A7, n7, c7, A8, n8, c8, rfl, z7, z8, hb1⟩
    obtain ⟨x_a, x_d, x_r, x_l, x_u, x_e, h, h2, h3⟩ := mv9 hb1 x_a x_d x_r x_l x_u x_e h h2 h3
    obtain ⟨h4, zl, zu, x_s, hb⟩ := mv5 hb1 h4 zl zu x_s hb
    clear hb1
    replace q_l := x_l.al
    replace q_u := x_u.al
    replace q_e := x_e.al
    clear hbx
    clear h h2 h3 h4
    clear q_e
    have y_l := (((x_l.alloc (.cells #[.bool (ngB (dn X V)), .slice A7 n7 c7] 24)).alloc (.cells #[.bool (ngB (up X V)), .slice A8 n8 c8] 24))).al
    have y_u := (((x_u.alloc (.cells #[.bool (ngB (dn X V)), .slice A7 n7 c7] 24)).alloc (.cells #[.bool (ngB (up X V)), .slice A8 n8 c8] 24))).al
    go_wp2_with fail
    clear y_l y_u
    have l_a_p := x_a.lt
    have l_d_p := x_d.lt
    have l_r_p := x_r.lt
    have l_l_p := x_l.lt
    have l_u_p := x_u.lt
    have l_e_p := x_e.lt
    have e_p : w.heap.size ≤ v6.heap.size := hb.size
    clear q_l q_u
    refine al2c fun v7 hb1 x_p x_t => ?_
    replace x_p := Bx.of x_p; replace x_t := Bx.of x_t
    obtain ⟨x_a, x_d, x_r, x_l, x_u, x_e, zl, zu, x_s⟩ := mv9 hb1 x_a x_d x_r x_l x_u x_e zl zu x_s
    obtain ⟨z7, z8, hb⟩ := mv3 hb1 z7 z8 hb
    clear hb1
    have q_l := x_l.al
    have q_u := x_u.al
    have q_p := x_p.al
    have q_t := x_t.al
    skip
    with_reducible refine (ZCmp_any z7.zr zl (by omega) (by omega)).mono ?_
    rintro e v8 ⟨rfl, hb1⟩
    obtain ⟨x_a, x_d, x_r, x_l, x_u, x_e, x_p, x_t, zl⟩ := mv9 hb1 x_a x_d x_r x_l x_u x_e x_p x_t zl
    obtain ⟨zu, x_s, z7, z8, hb⟩ := mv5 hb1 zu x_s z7 z8 hb
    clear hb1
    replace q_l := x_l.al
    replace q_u := x_u.al
    replace q_p := x_p.al
    replace q_t := x_t.al
    rw [HC1.out]
    go_wp2_with fail
    with_reducible refine (ZCmp_any z8.zr zu (by omega) (by omega)).mono ?_
    rintro e v9 ⟨rfl, hb1⟩
    obtain ⟨x_a, x_d, x_r, x_l, x_u, x_e, x_p, x_t, zl⟩ := mv9 hb1 x_a x_d x_r x_l x_u x_e x_p x_t zl
    obtain ⟨zu, x_s, z7, z8, hb⟩ := mv5 hb1 zu x_s z7 z8 hb
    clear hb1
    replace q_l := x_l.al
    replace q_u := x_u.al
    replace q_p := x_p.al
    replace q_t := x_t.al
    rw [HC2.out]
    go_wp2
    go_roundw
    case rel => exact ⟨1, by omega, by go_num, hb, ⟨x_a, x_d, x_r, x_s⟩, _, _, _, _, _, _, _, _, x_l, by rw [HM1.out]; exact zl, x_u, by rw [HM2.out]; exact zu⟩
    case measure => simp [intOf]
  ·obtain ⟨M, hM⟩ : ∃ M, mnK dn X Y U V 1 = M := ⟨_, rfl⟩
   obtain ⟨N, hN⟩ : ∃ N, mxK up X Y U V 1 = N := ⟨_, rfl⟩
   rw [hM] at zl; rw [hN] at zu
   have hM2 : mnK dn X Y U V 2 = min M (dn Y U) := by rw [← hM]; rfl
   have hN2 : mxK up X Y U V 2 = max N (up Y U) := by rw [← hN]; rfl
   clear hM hN
   obtain ⟨C1, hC1⟩ : ∃ C, sgnI (dn Y U - M) = C := ⟨_, rfl⟩
   obtain ⟨C2, hC2⟩ : ∃ C, sgnI (up Y U - N) = C := ⟨_, rfl⟩
   have i1 := sgnI_lt0 (X := dn Y U - M)
   have i2 := sgnI_gt0 (X := up Y U - N)
   rw [hC1] at i1; rw [hC2] at i2
   have HC1 := Lib.hid hC1; have HC2 := Lib.hid hC2; clear hC1 hC2
   rcases (show (C1 < 0 ∧ mnK dn X Y U V 2 = dn Y U) ∨ (0 ≤ C1 ∧ mnK dn X Y U V 2 = M) by rw [hM2]; omega) with ⟨d1, m1⟩ | ⟨d1, m1⟩ <;> rcases (show (0 < C2 ∧ mxK up X Y U V 2 = up Y U) ∨ (C2 ≤ 0 ∧ mxK up X Y U V 2 = N) by rw [hN2]; omega) with ⟨d2, m2⟩ | ⟨d2, m2⟩
   ·have HM1 := Lib.hid m1; have HM2 := Lib.hid m2; clear m1 m2 i1 i2 hM2 hN2
    have q_l := x_l.al
    have q_u := x_u.al
    have s_0 := x_s.c 4 (.bool b2) rfl
    have s_1 := x_s.c 5 (.slice A2 n2 c2) rfl
    have s_2 := x_s.c 6 (.bool b3) rfl
    have s_3 := x_s.c 7 (.slice A3 n3 c3) rfl
    go_wp2_with fail
    clear s_0 s_1 s_2 s_3
    have l_a_e := x_a.lt
    have l_d_e := x_d.lt
    have l_r_e := x_r.lt
    have l_l_e := x_l.lt
    have l_u_e := x_u.lt
    have e_e : w.heap.size ≤ wr.heap.size := hb.size
    clear q_l q_u
    refine al1c fun v5 hb1 x_e => ?_
    replace x_e := Ex.of x_e
    obtain ⟨x_a, x_d, x_r, x_l, x_u, h, h2, h3, h4⟩ := mv9 hb1 x_a x_d x_r x_l x_u h h2 h3 h4
    obtain ⟨zl, zu, x_s, hb⟩ := mv4 hb1 zl zu x_s hb
    clear hb1
    have q_l := x_l.al
    have q_u := x_u.al
    have q_e := x_e.al
    have hbx := hb
    skip
    with_reducible refine (HAT.out _ _ _ _ _ _ _ _ _ Y U hb h2 h3 (Or.inl rfl)).mono ?_
    rintro e v6 ⟨A7, n7, c7, A8, n8, c8, rfl, z7, z8, hb1⟩
    obtain ⟨x_a, x_d, x_r, x_l, x_u, x_e, h, h2, h3⟩ := mv9 hb1 x_a x_d x_r x_l x_u x_e h h2 h3
    obtain ⟨h4, zl, zu, x_s, hb⟩ := mv5 hb1 h4 zl zu x_s hb
    clear hb1
    replace q_l := x_l.al
    replace q_u := x_u.al
    replace q_e := x_e.al
    clear hbx
    clear h h2 h3 h4
    clear q_e
    have y_l := (((x_l.alloc (.cells #[.bool (ngB (dn Y U)), .slice A7 n7 c7] 24)).alloc (.cells #[.bool (ngB (up Y U)), .slice A8 n8 c8] 24))).al
    have y_u := (((x_u.alloc (.cells #[.bool (ngB (dn Y U)), .slice A7 n7 c7] 24)).alloc (.cells #[.bool (ngB (up Y U)), .slice A8 n8 c8] 24))).al
    go_wp2_with fail
    clear y_l y_u
    have l_a_p := x_a.lt
    have l_d_p := x_d.lt
    have l_r_p := x_r.lt
    have l_l_p := x_l.lt
    have l_u_p := x_u.lt
    have l_e_p := x_e.lt
    have e_p : w.heap.size ≤ v6.heap.size := hb.size
    clear q_l q_u
    refine al2c fun v7 hb1 x_p x_t => ?_
    replace x_p := Bx.of x_p; replace x_t := Bx.of x_t
    obtain ⟨x_a, x_d, x_r, x_l, x_u, x_e, zl, zu, x_s⟩ := mv9 hb1 x_a x_d x_r x_l x_u x_e zl zu x_s
    obtain ⟨z7, z8, hb⟩ := mv3 hb1 z7 z8 hb
    clear hb1
    have q_l := x_l.al
    have q_u := x_u.al
    have q_p := x_p.al
    have q_t := x_t.al
    skip
    with_reducible refine (ZCmp_any z7.zr zl (by omega) (by omega)).mono ?_
    rintro e v8 ⟨rfl, hb1⟩
    obtain ⟨x_a, x_d, x_r, x_l, x_u, x_e, x_p, x_t, zl⟩ := mv9 hb1 x_a x_d x_r x_l x_u x_e x_p x_t zl
    obtain ⟨zu, x_s, z7, z8, hb⟩ := mv5 hb1 zu x_s z7 z8 hb
    clear hb1
    replace q_l := x_l.al
    replace q_u := x_u.al
    replace q_p := x_p.al
    replace q_t := x_t.al
    rw [HC1.out]
    go_wp2_with fail
    clear q_l q_u q_p q_t
    refine x_l.stc fun v9 hs hx => ?_
    obtain ⟨x_a, x_d, x_r, x_u, x_e, x_p, x_t, zl, zu⟩ := ms9 hs ⟨by omega, by omega, by omega, by omega, by omega, by omega, by omega, trivial, trivial⟩ x_a x_d x_r x_u x_e x_p x_t zl zu
    obtain ⟨x_s, z7, z8, hb⟩ := ms4 hs ⟨by omega, trivial, trivial, by omega⟩ x_s z7 z8 hb
    replace x_l := hx; clear hx hs
    have q_l := x_l.al
    have q_u := x_u.al
    have q_p := x_p.al
    have q_t := x_t.al
    skip
    with_reducible refine (ZCmp_any z8.zr zu (by omega) (by omega)).mono ?_
    rintro e v10 ⟨rfl, hb1⟩
    obtain ⟨x_a, x_d, x_r, x_l, x_u, x_e, x_p, x_t, zl⟩ := mv9 hb1 x_a x_d x_r x_l x_u x_e x_p x_t zl
    obtain ⟨zu, x_s, z7, z8, hb⟩ := mv5 hb1 zu x_s z7 z8 hb
    clear hb1
    replace q_l := x_l.al
    replace q_u := x_u.al
    replace q_p := x_p.al
    replace q_t := x_t.al
    rw [HC2.out]
    go_wp2
    refine ⟨⟨2, by omega, by go_num, ?_⟩, by simp [intOf]⟩
    clear q_l q_u q_p q_t
    refine x_u.st fun v11 hs hx => ?_
    obtain ⟨x_a, x_d, x_r, x_l, x_e, x_p, x_t, zl, zu⟩ := ms9 hs ⟨by omega, by omega, by omega, by omega, by omega, by omega, by omega, trivial, trivial⟩ x_a x_d x_r x_l x_e x_p x_t zl zu
    obtain ⟨x_s, z7, z8, hb⟩ := ms4 hs ⟨by omega, trivial, trivial, by omega⟩ x_s z7 z8 hb
    replace x_u := hx; clear hx hs
    have q_l := x_l.al
    have q_u := x_u.al
    have q_p := x_p.al
    have q_t := x_t.al
    exact ⟨hb, ⟨x_a, x_d, x_r, x_s⟩, _, _, _, _, _, _, _, _, x_l, by rw [HM1.out]; exact z7.zr, x_u, by rw [HM2.out]; exact z8.zr⟩
   ·have HM1 := Lib.hid m1; have HM2 := Lib.hid m2; clear m1 m2 i1 i2 hM2 hN2
    have q_l := x_l.al
    have q_u := x_u.al
    have s_0 := x_s.c 4 (.bool b2) rfl
    have s_1 := x_s.c 5 (.slice A2 n2 c2) rfl
    have s_2 := x_s.c 6 (.bool b3) rfl
    have s_3 := x_s.c 7 (.slice A3 n3 c3) rfl
    go_wp2_with fail
    clear s_0 s_1 s_2 s_3
    have l_a_e := x_a.lt
    have l_d_e := x_d.lt
    have l_r_e := x_r.lt
    have l_l_e := x_l.lt
    have l_u_e := x_u.lt
    have e_e : w.heap.size ≤ wr.heap.size := hb.size
    clear q_l q_u
    refine al1c fun v5 hb1 x_e => ?_
    replace x_e := Ex.of x_e
    obtain ⟨x_a, x_d, x_r, x_l, x_u, h, h2, h3, h4⟩ := mv9 hb1 x_a x_d x_r x_l x_u h h2 h3 h4
    obtain ⟨zl, zu, x_s, hb⟩ := mv4 hb1 zl zu x_s hb
    clear hb1
    have q_l := x_l.al
    have q_u := x_u.al
    have q_e := x_e.al
    have hbx := hb
    skip
    with_reducible refine (HAT.out _ _ _ _ _ _ _ _ _ Y U hb h2 h3 (Or.inl rfl)).mono ?_
    rintro e v6 ⟨A7, n7, c7, A8, n8, c8, rfl, z7, z8, hb1⟩
    obtain ⟨x_a, x_d, x_r, x_l, x_u, x_e, h, h2, h3⟩ := mv9 hb1 x_a x_d x_r x_l x_u x_e h h2 h3
    obtain ⟨h4, zl, zu, x_s, hb⟩ := mv5 hb1 h4 zl zu x_s hb
    clear hb1
    replace q_l := x_l.al
    replace q_u := x_u.al
    replace q_e := x_e.al
    clear hbx
    clear h h2 h3 h4
    clear q_e
    have y_l := (((x_l.alloc (.cells #[.bool (ngB (dn Y U)), .slice A7 n7 c7] 24)).alloc (.cells #[.bool (ngB (up Y U)), .slice A8 n8 c8] 24))).al
    have y_u := (((x_u.alloc (.cells #[.bool (ngB (dn Y U)), .slice A7 n7 c7] 24)).alloc (.cells #[.bool (ngB (up Y U)), .slice A8 n8 c8] 24))).al
    go_wp2_with fail
    clear y_l y_u
    have l_a_p := x_a.lt
    have l_d_p := x_d.lt
    have l_r_p := x_r.lt
    have l_l_p := x_l.lt
    have l_u_p := x_u.lt
    have l_e_p := x_e.lt
    have e_p : w.heap.size ≤ v6.heap.size := hb.size
    clear q_l q_u
    refine al2c fun v7 hb1 x_p x_t => ?_
    replace x_p := Bx.of x_p; replace x_t := Bx.of x_t
    obtain ⟨x_a, x_d, x_r, x_l, x_u, x_e, zl, zu, x_s⟩ := mv9 hb1 x_a x_d x_r x_l x_u x_e zl zu x_s
    obtain ⟨z7, z8, hb⟩ := mv3 hb1 z7 z8 hb
    clear hb1
    have q_l := x_l.al
    have q_u := x_u.al
    have q_p := x_p.al
    have q_t := x_t.al
    skip
    with_reducible refine (ZCmp_any z7.zr zl (by omega) (by omega)).mono ?_
    rintro e v8 ⟨rfl, hb1⟩
    obtain ⟨x_a, x_d, x_r, x_l, x_u, x_e, x_p, x_t, zl⟩ := mv9 hb1 x_a x_d x_r x_l x_u x_e x_p x_t zl
    obtain ⟨zu, x_s, z7, z8, hb⟩ := mv5 hb1 zu x_s z7 z8 hb
    clear hb1
    replace q_l := x_l.al
    replace q_u := x_u.al
    replace q_p := x_p.al
    replace q_t := x_t.al
    rw [HC1.out]
    go_wp2_with fail
    clear q_l q_u q_p q_t
    refine x_l.stc fun v9 hs hx => ?_
    obtain ⟨x_a, x_d, x_r, x_u, x_e, x_p, x_t, zl, zu⟩ := ms9 hs ⟨by omega, by omega, by omega, by omega, by omega, by omega, by omega, trivial, trivial⟩ x_a x_d x_r x_u x_e x_p x_t zl zu
    obtain ⟨x_s, z7, z8, hb⟩ := ms4 hs ⟨by omega, trivial, trivial, by omega⟩ x_s z7 z8 hb
    replace x_l := hx; clear hx hs
    have q_l := x_l.al
    have q_u := x_u.al
    have q_p := x_p.al
    have q_t := x_t.al
    skip
    with_reducible refine (ZCmp_any z8.zr zu (by omega) (by omega)).mono ?_
    rintro e v10 ⟨rfl, hb1⟩
    obtain ⟨x_a, x_d, x_r, x_l, x_u, x_e, x_p, x_t, zl⟩ := mv9 hb1 x_a x_d x_r x_l x_u x_e x_p x_t zl
    obtain ⟨zu, x_s, z7, z8, hb⟩ := mv5 hb1 zu x_s z7 z8 hb
    clear hb1
    replace q_l := x_l.al
    replace q_u := x_u.al
    replace q_p := x_p.al
    replace q_t := x_t.al
    rw [HC2.out]
    go_wp2
    go_roundw
    case rel => exact ⟨2, by omega, by go_num, hb, ⟨x_a, x_d, x_r, x_s⟩, _, _, _, _, _, _, _, _, x_l, by rw [HM1.out]; exact z7.zr, x_u, by rw [HM2.out]; exact zu⟩
    case measure => simp [intOf]
   ·have HM1 := Lib.hid m1; have HM2 := Lib.hid m2; clear m1 m2 i1 i2 hM2 hN2
    have q_l := x_l.al
    have q_u := x_u.al
    have s_0 := x_s.c 4 (.bool b2) rfl
    have s_1 := x_s.c 5 (.slice A2 n2 c2) rfl
    have s_2 := x_s.c 6 (.bool b3) rfl
    have s_3 := x_s.c 7 (.slice A3 n3 c3) rfl
    go_wp2_with fail
    clear s_0 s_1 s_2 s_3
    have l_a_e := x_a.lt
    have l_d_e := x_d.lt
    have l_r_e := x_r.lt
    have l_l_e := x_l.lt
    have l_u_e := x_u.lt
    have e_e : w.heap.size ≤ wr.heap.size := hb.size
    clear q_l q_u
    refine al1c fun v5 hb1 x_e => ?_
    replace x_e := Ex.of x_e
    obtain ⟨x_a, x_d, x_r, x_l, x_u, h, h2, h3, h4⟩ := mv9 hb1 x_a x_d x_r x_l x_u h h2 h3 h4
    obtain ⟨zl, zu, x_s, hb⟩ := mv4 hb1 zl zu x_s hb
    clear hb1
    have q_l := x_l.al
    have q_u := x_u.al
    have q_e := x_e.al
    have hbx := hb
    skip
    with_reducible refine (HAT.out _ _ _ _ _ _ _ _ _ Y U hb h2 h3 (Or.inl rfl)).mono ?_
    rintro e v6 ⟨A7, n7, c7, A8, n8, c8, rfl, z7, z8, hb1⟩
    obtain ⟨x_a, x_d, x_r, x_l, x_u, x_e, h, h2, h3⟩ := mv9 hb1 x_a x_d x_r x_l x_u x_e h h2 h3
    obtain ⟨h4, zl, zu, x_s, hb⟩ := mv5 hb1 h4 zl zu x_s hb
    clear hb1
    replace q_l := x_l.al
    replace q_u := x_u.al
    replace q_e := x_e.al
    clear hbx
    clear h h2 h3 h4
    clear q_e
    have y_l := (((x_l.alloc (.cells #[.bool (ngB (dn Y U)), .slice A7 n7 c7] 24)).alloc (.cells #[.bool (ngB (up Y U)), .slice A8 n8 c8] 24))).al
    have y_u := (((x_u.alloc (.cells #[.bool (ngB (dn Y U)), .slice A7 n7 c7] 24)).alloc (.cells #[.bool (ngB (up Y U)), .slice A8 n8 c8] 24))).al
    go_wp2_with fail
    clear y_l y_u
    have l_a_p := x_a.lt
    have l_d_p := x_d.lt
    have l_r_p := x_r.lt
    have l_l_p := x_l.lt
    have l_u_p := x_u.lt
    have l_e_p := x_e.lt
    have e_p : w.heap.size ≤ v6.heap.size := hb.size
    clear q_l q_u
    refine al2c fun v7 hb1 x_p x_t => ?_
    replace x_p := Bx.of x_p; replace x_t := Bx.of x_t
    obtain ⟨x_a, x_d, x_r, x_l, x_u, x_e, zl, zu, x_s⟩ := mv9 hb1 x_a x_d x_r x_l x_u x_e zl zu x_s
    obtain ⟨z7, z8, hb⟩ := mv3 hb1 z7 z8 hb
    clear hb1
    have q_l := x_l.al
    have q_u := x_u.al
    have q_p := x_p.al
    have q_t := x_t.al
    skip
    with_reducible refine (ZCmp_any z7.zr zl (by omega) (by omega)).mono ?_
    rintro e v8 ⟨rfl, hb1⟩
    obtain ⟨x_a, x_d, x_r, x_l, x_u, x_e, x_p, x_t, zl⟩ := mv9 hb1 x_a x_d x_r x_l x_u x_e x_p x_t zl
    obtain ⟨zu, x_s, z7, z8, hb⟩ := mv5 hb1 zu x_s z7 z8 hb
    clear hb1
    replace q_l := x_l.al
    replace q_u := x_u.al
    replace q_p := x_p.al
    replace q_t := x_t.al
    rw [HC1.out]
    go_wp2_with fail
    with_reducible refine (ZCmp_any z8.zr zu (by omega) (by omega)).mono ?_
    rintro e v9 ⟨rfl, hb1⟩
    obtain ⟨x_a, x_d, x_r, x_l, x_u, x_e, x_p, x_t, zl⟩ := mv9 hb1 x_a x_d x_r x_l x_u x_e x_p x_t zl
    obtain ⟨zu, x_s, z7, z8, hb⟩ := mv5 hb1 zu x_s z7 z8 hb
    clear hb1
    replace q_l := x_l.al
    replace q_u := x_u.al
    replace q_p := x_p.al
    replace q_t := x_t.al
    rw [HC2.out]
    go_wp2
    refine ⟨⟨2, by omega, by go_num, ?_⟩, by simp [intOf]⟩
    clear q_l q_u q_p q_t
    refine x_u.st fun v10 hs hx => ?_
    obtain ⟨x_a, x_d, x_r, x_l, x_e, x_p, x_t, zl, zu⟩ := ms9 hs ⟨by omega, by omega, by omega, by omega, by omega, by omega, by omega, trivial, trivial⟩ x_a x_d x_r x_l x_e x_p x_t zl zu
    obtain ⟨x_s, z7, z8, hb⟩ := ms4 hs ⟨by omega, trivial, trivial, by omega⟩ x_s z7 z8 hb
    replace x_u := hx; clear hx hs
    have q_l := x_l.al
    have q_u := x_u.al
    have q_p := x_p.al
    have q_t := x_t.al
    exact ⟨hb, ⟨x_a, x_d, x_r, x_s⟩, _, _, _, _, _, _, _, _, x_l, by rw [HM1.out]; exact zl, x_u, by rw [HM2.out]; exact z8.zr⟩
   ·have HM1 := Lib.hid m1; have HM2 := Lib.hid m2; clear m1 m2 i1 i2 hM2 hN2
    have q_l := x_l.al
    have q_u := x_u.al
    have s_0 := x_s.c 4 (.bool b2) rfl
    have s_1 := x_s.c 5 (.slice A2 n2 c2) rfl
    have s_2 := x_s.c 6 (.bool b3) rfl
    have s_3 := x_s.c 7 (.slice A3 n3 c3) rfl
    go_wp2_with fail
    clear s_0 s_1 s_2 s_3
    have l_a_e := x_a.lt
    have l_d_e := x_d.lt
    have l_r_e := x_r.lt
    have l_l_e := x_l.lt
    have l_u_e := x_u.lt
    have e_e : w.heap.size ≤ wr.heap.size := hb.size
    clear q_l q_u
    refine al1c fun v5 hb1 x_e => ?_
    replace x_e := Ex.of x_e
    obtain ⟨x_a, x_d, x_r, x_l, x_u, h, h2, h3, h4⟩ := mv9 hb1 x_a x_d x_r x_l x_u h h2 h3 h4
    obtain ⟨zl, zu, x_s, hb⟩ := mv4 hb1 zl zu x_s hb
    clear hb1
    have q_l := x_l.al
    have q_u := x_u.al
    have q_e := x_e.al
    have hbx := hb
    skip
    with_reducible refine (HAT.out _ _ _ _ _ _ _ _ _ Y U hb h2 h3 (Or.inl rfl)).mono ?_
    rintro e v6 ⟨A7, n7, c7, A8, n8, c8, rfl, z7, z8, hb1⟩
    obtain ⟨x_a, x_d, x_r, x_l, x_u, x_e, h, h2, h3⟩ := mv9 hb1 x_a x_d x_r x_l x_u x_e h h2 h3
    obtain ⟨h4, zl, zu, x_s, hb⟩ := mv5 hb1 h4 zl zu x_s hb
    clear hb1
    replace q_l := x_l.al
    replace q_u := x_u.al
    replace q_e := x_e.al
    clear hbx
    clear h h2 h3 h4
    clear q_e
    have y_l := (((x_l.alloc (.cells #[.bool (ngB (dn Y U)), .slice A7 n7 c7] 24)).alloc (.cells #[.bool (ngB (up Y U)), .slice A8 n8 c8] 24))).al
    have y_u := (((x_u.alloc (.cells #[.bool (ngB (dn Y U)), .slice A7 n7 c7] 24)).alloc (.cells #[.bool (ngB (up Y U)), .slice A8 n8 c8] 24))).al
    go_wp2_with fail
    clear y_l y_u
    have l_a_p := x_a.lt
    have l_d_p := x_d.lt
    have l_r_p := x_r.lt
    have l_l_p := x_l.lt
    have l_u_p := x_u.lt
    have l_e_p := x_e.lt
    have e_p : w.heap.size ≤ v6.heap.size := hb.size
    clear q_l q_u
    refine al2c fun v7 hb1 x_p x_t => ?_
    replace x_p := Bx.of x_p; replace x_t := Bx.of x_t
    obtain ⟨x_a, x_d, x_r, x_l, x_u, x_e, zl, zu, x_s⟩ := mv9 hb1 x_a x_d x_r x_l x_u x_e zl zu x_s
    obtain ⟨z7, z8, hb⟩ := mv3 hb1 z7 z8 hb
    clear hb1
    have q_l := x_l.al
    have q_u := x_u.al
    have q_p := x_p.al
    have q_t := x_t.al
    skip
    with_reducible refine (ZCmp_any z7.zr zl (by omega) (by omega)).mono ?_
    rintro e v8 ⟨rfl, hb1⟩
    obtain ⟨x_a, x_d, x_r, x_l, x_u, x_e, x_p, x_t, zl⟩ := mv9 hb1 x_a x_d x_r x_l x_u x_e x_p x_t zl
    obtain ⟨zu, x_s, z7, z8, hb⟩ := mv5 hb1 zu x_s z7 z8 hb
    clear hb1
    replace q_l := x_l.al
    replace q_u := x_u.al
    replace q_p := x_p.al
    replace q_t := x_t.al
    rw [HC1.out]
    go_wp2_with fail
    with_reducible refine (ZCmp_any z8.zr zu (by omega) (by omega)).mono ?_
    rintro e v9 ⟨rfl, hb1⟩
    obtain ⟨x_a, x_d, x_r, x_l, x_u, x_e, x_p, x_t, zl⟩ := mv9 hb1 x_a x_d x_r x_l x_u x_e x_p x_t zl
    obtain ⟨zu, x_s, z7, z8, hb⟩ := mv5 hb1 zu x_s z7 z8 hb
    clear hb1
    replace q_l := x_l.al
    replace q_u := x_u.al
    replace q_p := x_p.al
    replace q_t := x_t.al
    rw [HC2.out]
    go_wp2
    go_roundw
    case rel => exact ⟨2, by omega, by go_num, hb, ⟨x_a, x_d, x_r, x_s⟩, _, _, _, _, _, _, _, _, x_l, by rw [HM1.out]; exact zl, x_u, by rw [HM2.out]; exact zu⟩
    case measure => simp [intOf]
  ·obtain ⟨M, hM⟩ : ∃ M, mnK dn X Y U V 2 = M := ⟨_, rfl⟩
   obtain ⟨N, hN⟩ : ∃ N, mxK up X Y U V 2 = N := ⟨_, rfl⟩
   rw [hM] at zl; rw [hN] at zu
   have hM2 : mnK dn X Y U V 3 = min M (dn Y V) := by rw [← hM]; rfl
   have hN2 : mxK up X Y U V 3 = max N (up Y V) := by rw [← hN]; rfl
   clear hM hN
   obtain ⟨C1, hC1⟩ : ∃ C, sgnI (dn Y V - M) = C := ⟨_, rfl⟩
   obtain ⟨C2, hC2⟩ : ∃ C, sgnI (up Y V - N) = C := ⟨_, rfl⟩
   have i1 := sgnI_lt0 (X := dn Y V - M)
   have i2 := sgnI_gt0 (X := up Y V - N)
   rw [hC1] at i1; rw [hC2] at i2
   have HC1 := Lib.hid hC1; have HC2 := Lib.hid hC2; clear hC1 hC2
   rcases (show (C1 < 0 ∧ mnK dn X Y U V 3 = dn Y V) ∨ (0 ≤ C1 ∧ mnK dn X Y U V 3 = M) by rw [hM2]; omega) with ⟨d1, m1⟩ | ⟨d1, m1⟩ <;> rcases (show (0 < C2 ∧ mxK up X Y U V 3 = up Y V) ∨ (C2 ≤ 0 ∧ mxK up X Y U V 3 = N) by rw [hN2]; omega) with ⟨d2, m2⟩ | ⟨d2, m2⟩
   ·have HM1 := Lib.hid m1; have HM2 := Lib.hid m2; clear m1 m2 i1 i2 hM2 hN2
    have q_l := x_l.al
    have q_u := x_u.al
    have s_0 := x_s.c 8 (.bool b2) rfl
    have s_1 := x_s.c 9 (.slice A2 n2 c2) rfl
    have s_2 := x_s.c 10 (.bool b4) rfl
    have s_3 := x_s.c 11 (.slice A4 n4 c4) rfl
    go_wp2_with fail
    clear s_0 s_1 s_2 s_3
    have l_a_e := x_a.lt
    have l_d_e := x_d.lt
    have l_r_e := x_r.lt
    have l_l_e := x_l.lt
    have l_u_e := x_u.lt
    have e_e : w.heap.size ≤ wr.heap.size := hb.size
    clear q_l q_u
    refine al1c fun v5 hb1 x_e => ?_
    replace x_e := Ex.of x_e
    obtain ⟨x_a, x_d, x_r, x_l, x_u, h, h2, h3, h4⟩ := mv9 hb1 x_a x_d x_r x_l x_u h h2 h3 h4
    obtain ⟨zl, zu, x_s, hb⟩ := mv4 hb1 zl zu x_s hb
    clear hb1
    have q_l := x_l.al
    have q_u := x_u.al
    have q_e := x_e.al
    have hbx := hb
    skip
    with_reducible refine (HAT.out _ _ _ _ _ _ _ _ _ Y V hb h2 h4 (Or.inr rfl)).mono ?_
    rintro e v6 ⟨A7, n7, c7, A8, n8, c8, rfl, z7, z8, hb1⟩
    obtain ⟨x_a, x_d, x_r, x_l, x_u, x_e, h, h2, h3⟩ := mv9 hb1 x_a x_d x_r x_l x_u x_e h h2 h3
    obtain ⟨h4, zl, zu, x_s, hb⟩ := mv5 hb1 h4 zl zu x_s hb
    clear hb1
    replace q_l := x_l.al
    replace q_u := x_u.al
    replace q_e := x_e.al
    clear hbx
    clear h h2 h3 h4
    clear q_e
    have y_l := (((x_l.alloc (.cells #[.bool (ngB (dn Y V)), .slice A7 n7 c7] 24)).alloc (.cells #[.bool (ngB (up Y V)), .slice A8 n8 c8] 24))).al
    have y_u := (((x_u.alloc (.cells #[.bool (ngB (dn Y V)), .slice A7 n7 c7] 24)).alloc (.cells #[.bool (ngB (up Y V)), .slice A8 n8 c8] 24))).al
    go_wp2_with fail
    clear y_l y_u
    have l_a_p := x_a.lt
    have l_d_p := x_d.lt
    have l_r_p := x_r.lt
    have l_l_p := x_l.lt
    have l_u_p := x_u.lt
    have l_e_p := x_e.lt
    have e_p : w.heap.size ≤ v6.heap.size := hb.size
    clear q_l q_u
    refine al2c fun v7 hb1 x_p x_t => ?_
    replace x_p := Bx.of x_p; replace x_t := Bx.of x_t
    obtain ⟨x_a, x_d, x_r, x_l, x_u, x_e, zl, zu, x_s⟩ := mv9 hb1 x_a x_d x_r x_l x_u x_e zl zu x_s
    obtain ⟨z7, z8, hb⟩ := mv3 hb1 z7 z8 hb
    clear hb1
    have q_l := x_l.al
    have q_u := x_u.al
    have q_p := x_p.al
    have q_t := x_t.al
    skip
    with_reducible refine (ZCmp_any z7.zr zl (by omega) (by omega)).mono ?_
    rintro e v8 ⟨rfl, hb1⟩
    obtain ⟨x_a, x_d, x_r, x_l, x_u, x_e, x_p, x_t, zl⟩ := mv9 hb1 x_a x_d x_r x_l x_u x_e x_p x_t zl
    obtain ⟨zu, x_s, z7, z8, hb⟩ := mv5 hb1 zu x_s z7 z8 hb
    clear hb1
    replace q_l := x_l.al
    replace q_u := x_u.al
    replace q_p := x_p.al
    replace q_t := x_t.al
    rw [HC1.out]
    go_wp2_with fail
    clear q_l q_u q_p q_t
    refine x_l.stc fun v9 hs hx => ?_
    obtain ⟨x_a, x_d, x_r, x_u, x_e, x_p, x_t, zl, zu⟩ := ms9 hs ⟨by omega, by omega, by omega, by omega, by omega, by omega, by omega, trivial, trivial⟩ x_a x_d x_r x_u x_e x_p x_t zl zu
    obtain ⟨x_s, z7, z8, hb⟩ := ms4 hs ⟨by omega, trivial, trivial, by omega⟩ x_s z7 z8 hb
    replace x_l := hx; clear hx hs
    have q_l := x_l.al
    have q_u := x_u.al
    have q_p := x_p.al
    have q_t := x_t.al
    skip
    with_reducible refine (ZCmp_any z8.zr zu (by omega) (by omega)).mono ?_
    rintro e v10 ⟨rfl, hb1⟩
    obtain ⟨x_a, x_d, x_r, x_l, x_u, x_e, x_p, x_t, zl⟩ := mv9 hb1 x_a x_d x_r x_l x_u x_e x_p x_t zl
    obtain ⟨zu, x_s, z7, z8, hb⟩ := mv5 hb1 zu x_s z7 z8 hb
    clear hb1
    replace q_l := x_l.al
    replace q_u := x_u.al
    replace q_p := x_p.al
    replace q_t := x_t.al
    rw [HC2.out]
    go_wp2
    refine ⟨⟨3, by omega, by go_num, ?_⟩, by simp [intOf]⟩
    clear q_l q_u q_p q_t
    refine x_u.st fun v11 hs hx => ?_
    obtain ⟨x_a, x_d, x_r, x_l, x_e, x_p, x_t, zl, zu⟩ := ms9 hs ⟨by omega, by omega, by omega, by omega, by omega, by omega, by omega, trivial, trivial⟩ x_a x_d x_r x_l x_e x_p x_t zl zu
    obtain ⟨x_s, z7, z8, hb⟩ := ms4 hs ⟨by omega, trivial, trivial, by omega⟩ x_s z7 z8 hb
    replace x_u := hx; clear hx hs
    have q_l := x_l.al
    have q_u := x_u.al
    have q_p := x_p.al
    have q_t := x_t.al
    exact ⟨hb, ⟨x_a, x_d, x_r, x_s⟩, _, _, _, _, _, _, _, _, x_l, by rw [HM1.out]; exact z7.zr, x_u, by rw [HM2.out]; exact z8.zr⟩
   ·have HM1 := Lib.hid m1; have HM2 := Lib.hid m2; clear m1 m2 i1 i2 hM2 hN2
    have q_l := x_l.al
    have q_u := x_u.al
    have s_0 := x_s.c 8 (.bool b2) rfl
    have s_1 := x_s.c 9 (.slice A2 n2 c2) rfl
    have s_2 := x_s.c 10 (.bool b4) rfl
    have s_3 := x_s.c 11 (.slice A4 n4 c4) rfl
    go_wp2_with fail
    clear s_0 s_1 s_2 s_3
    have l_a_e := x_a.lt
    have l_d_e := x_d.lt
    have l_r_e := x_r.lt
    have l_l_e := x_l.lt
    have l_u_e := x_u.lt
    have e_e : w.heap.size ≤ wr.heap.size := hb.size
    clear q_l q_u
    refine al1c fun v5 hb1 x_e => ?_
    replace x_e := Ex.of x_e
    obtain ⟨x_a, x_d, x_r, x_l, x_u, h, h2, h3, h4⟩ := mv9 hb1 x_a x_d x_r x_l x_u h h2 h3 h4
    obtain ⟨zl, zu, x_s, hb⟩ := mv4 hb1 zl zu x_s hb
    clear hb1
    have q_l := x_l.al
    have q_u := x_u.al
    have q_e := x_e.al
    have hbx := hb
    skip
    with_reducible refine (HAT.out _ _ _ _ _ _ _ _ _ Y V hb h2 h4 (Or.inr rfl)).mono ?_
    rintro e v6 ⟨A7, n7, c7, A8, n8, c8, rfl, z7, z8, hb1⟩
    obtain ⟨x_a, x_d, x_r, x_l, x_u, x_e, h, h2, h3⟩ := mv9 hb1 x_a x_d x_r x_l x_u x_e h h2 h3
    obtain ⟨h4, zl, zu, x_s, hb⟩ := mv5 hb1 h4 zl zu x_s hb
    clear hb1
    replace q_l := x_l.al
    replace q_u := x_u.al
    replace q_e := x_e.al
    clear hbx
    clear h h2 h3 h4
    clear q_e
    have y_l := (((x_l.alloc (.cells #[.bool (ngB (dn Y V)), .slice A7 n7 c7] 24)).alloc (.cells #[.bool (ngB (up Y V)), .slice A8 n8 c8] 24))).al
    have y_u := (((x_u.alloc (.cells #[.bool (ngB (dn Y V)), .slice A7 n7 c7] 24)).alloc (.cells #[.bool (ngB (up Y V)), .slice A8 n8 c8] 24))).al
    go_wp2_with fail
    clear y_l y_u
    have l_a_p := x_a.lt
    have l_d_p := x_d.lt
    have l_r_p := x_r.lt
    have l_l_p := x_l.lt
    have l_u_p := x_u.lt
    have l_e_p := x_e.lt
    have e_p : w.heap.size ≤ v6.heap.size := hb.size
    clear q_l q_u
    refine al2c fun v7 hb1 x_p x_t => ?_
    replace x_p := Bx.of x_p; replace x_t := Bx.of x_t
    obtain ⟨x_a, x_d, x_r, x_l, x_u, x_e, zl, zu, x_s⟩ := mv9 hb1 x_a x_d x_r x_l x_u x_e zl zu x_s
    obtain ⟨z7, z8, hb⟩ := mv3 hb1 z7 z8 hb
    clear hb1
    have q_l := x_l.al
    have q_u := x_u.al
    have q_p := x_p.al
    have q_t := x_t.al
    skip
    with_reducible refine (ZCmp_any z7.zr zl (by omega) (by omega)).mono ?_
    rintro e v8 ⟨rfl, hb1⟩
    obtain ⟨x_a, x_d, x_r, x_l, x_u, x_e, x_p, x_t, zl⟩ := mv9 hb1 x_a x_d x_r x_l x_u x_e x_p x_t zl
    obtain ⟨zu, x_s, z7, z8, hb⟩ := mv5 hb1 zu x_s z7 z8 hb
    clear hb1
    replace q_l := x_l.al
    replace q_u := x_u.al
    replace q_p := x_p.al
    replace q_t := x_t.al
    rw [HC1.out]
    go_wp2_with fail
    clear q_l q_u q_p q_t
    refine x_l.stc fun v9 hs hx => ?_
    obtain ⟨x_a, x_d, x_r, x_u, x_e, x_p, x_t, zl, zu⟩ := ms9 hs ⟨by omega, by omega, by omega, by omega, by omega, by omega, by omega, trivial, trivial⟩ x_a x_d x_r x_u x_e x_p x_t zl zu
    obtain ⟨x_s, z7, z8, hb⟩ := ms4 hs ⟨by omega, trivial, trivial, by omega⟩ x_s z7 z8 hb
    replace x_l := hx; clear hx hs
    have q_l := x_l.al
    have q_u := x_u.al
    have q_p := x_p.al
    have q_t := x_t.al
    skip
    with_reducible refine (ZCmp_any z8.zr zu (by omega) (by omega)).mono ?_
    rintro e v10 ⟨rfl, hb1⟩
    obtain ⟨x_a, x_d, x_r, x_l, x_u, x_e, x_p, x_t, zl⟩ := mv9 hb1 x_a x_d x_r x_l x_u x_e x_p x_t zl
    obtain ⟨zu, x_s, z7, z8, hb⟩ := mv5 hb1 zu x_s z7 z8 hb
    clear hb1
    replace q_l := x_l.al
    replace q_u := x_u.al
    replace q_p := x_p.al
    replace q_t := x_t.al
    rw [HC2.out]
    go_wp2
    go_roundw
    case rel => exact ⟨3, by omega, by go_num, hb, ⟨x_a, x_d, x_r, x_s⟩, _, _, _, _, _, _, _, _, x_l, by rw [HM1.out]; exact z7.zr, x_u, by rw [HM2.out]; exact zu⟩
    case measure => simp [intOf]
   ·have HM1 := Lib.hid m1; have HM2 := Lib.hid m2; clear m1 m2 i1 i2 hM2 hN2
    have q_l := x_l.al
    have q_u := x_u.al
    have s_0 := x_s.c 8 (.bool b2) rfl
    have s_1 := x_s.c 9 (.slice A2 n2 c2) rfl
    have s_2 := x_s.c 10 (.bool b4) rfl
    have s_3 := x_s.c 11 (.slice A4 n4 c4) rfl
    go_wp2_with fail
    clear s_0 s_1 s_2 s_3
    have l_a_e := x_a.lt
    have l_d_e := x_d.lt
    have l_r_e := x_r.lt
    have l_l_e := x_l.lt
    have l_u_e := x_u.lt
    have e_e : w.heap.size ≤ wr.heap.size := hb.size
    clear q_l q_u
    refine al1c fun v5 hb1 x_e => ?_
    replace x_e := Ex.of x_e
    obtain ⟨x_a, x_d, x_r, x_l, x_u, h, h2, h3, h4⟩ := mv9 hb1 x_a x_d x_r x_l x_u h h2 h3 h4
    obtain ⟨zl, zu, x_s, hb⟩ := mv4 hb1 zl zu x_s hb
    clear hb1
    have q_l := x_l.al
    have q_u := x_u.al
    have q_e := x_e.al
    have hbx := hb
    skip
    with_reducible refine (HAT.out _ _ _ _ _ _ _ _ _ Y V hb h2 h4 (Or.inr rfl)).mono ?_
    rintro e v6 ⟨A7, n7, c7, A8, n8, c8, rfl, z7, z8, hb1⟩
    obtain ⟨x_a, x_d, x_r, x_l, x_u, x_e, h, h2, h3⟩ := mv9 hb1 x_a x_d x_r x_l x_u x_e h h2 h3
    obtain ⟨h4, zl, zu, x_s, hb⟩ := mv5 hb1 h4 zl zu x_s hb
    clear hb1
    replace q_l := x_l.al
    replace q_u := x_u.al
    replace q_e := x_e.al
    clear hbx
    clear h h2 h3 h4
    clear q_e
    have y_l := (((x_l.alloc (.cells #[.bool (ngB (dn Y V)), .slice A7 n7 c7] 24)).alloc (.cells #[.bool (ngB (up Y V)), .slice A8 n8 c8] 24))).al
    have y_u := (((x_u.alloc (.cells #[.bool (ngB (dn Y V)), .slice A7 n7 c7] 24)).alloc (.cells #[.bool (ngB (up Y V)), .slice A8 n8 c8] 24))).al
    go_wp2_with fail
    clear y_l y_u
    have l_a_p := x_a.lt
    have l_d_p := x_d.lt
    have l_r_p := x_r.lt
    have l_l_p := x_l.lt
    have l_u_p := x_u.lt
    have l_e_p := x_e.lt
    have e_p : w.heap.size ≤ v6.heap.size := hb.size
    clear q_l q_u
    refine al2c fun v7 hb1 x_p x_t => ?_
    replace x_p := Bx.of x_p; replace x_t := Bx.of x_t
    obtain ⟨x_a, x_d, x_r, x_l, x_u, x_e, zl, zu, x_s⟩ := mv9 hb1 x_a x_d x_r x_l x_u x_e zl zu x_s
    obtain ⟨z7, z8, hb⟩ := mv3 hb1 z7 z8 hb
    clear hb1
    have q_l := x_l.al
    have q_u := x_u.al
    have q_p := x_p.al
    have q_t := x_t.al
    skip
    with_reducible refine (ZCmp_any z7.zr zl (by omega) (by omega)).mono ?_
    rintro e v8 ⟨rfl, hb1⟩
    obtain ⟨x_a, x_d, x_r, x_l, x_u, x_e, x_p, x_t, zl⟩ := mv9 hb1 x_a x_d x_r x_l x_u x_e x_p x_t zl
    obtain ⟨zu, x_s, z7, z8, hb⟩ := mv5 hb1 zu x_s z7 z8 hb
    clear hb1
    replace q_l := x_l.al
    replace q_u := x_u.al
    replace q_p := x_p.al
    replace q_t := x_t.al
    rw [HC1.out]
    go_wp2_with fail
    with_reducible refine (ZCmp_any z8.zr zu (by omega) (by omega)).mono ?_
    rintro e v9 ⟨rfl, hb1⟩
    obtain ⟨x_a, x_d, x_r, x_l, x_u, x_e, x_p, x_t, zl⟩ := mv9 hb1 x_a x_d x_r x_l x_u x_e x_p x_t zl
    obtain ⟨zu, x_s, z7, z8, hb⟩ := mv5 hb1 zu x_s z7 z8 hb
    clear hb1
    replace q_l := x_l.al
    replace q_u := x_u.al
    replace q_p := x_p.al
    replace q_t := x_t.al
    rw [HC2.out]
    go_wp2
    refine ⟨⟨3, by omega, by go_num, ?_⟩, by simp [intOf]⟩
    clear q_l q_u q_p q_t
    refine x_u.st fun v10 hs hx => ?_
    obtain ⟨x_a, x_d, x_r, x_l, x_e, x_p, x_t, zl, zu⟩ := ms9 hs ⟨by omega, by omega, by omega, by omega, by omega, by omega, by omega, trivial, trivial⟩ x_a x_d x_r x_l x_e x_p x_t zl zu
    obtain ⟨x_s, z7, z8, hb⟩ := ms4 hs ⟨by omega, trivial, trivial, by omega⟩ x_s z7 z8 hb
    replace x_u := hx; clear hx hs
    have q_l := x_l.al
    have q_u := x_u.al
    have q_p := x_p.al
    have q_t := x_t.al
    exact ⟨hb, ⟨x_a, x_d, x_r, x_s⟩, _, _, _, _, _, _, _, _, x_l, by rw [HM1.out]; exact zl, x_u, by rw [HM2.out]; exact z8.zr⟩
   ·have HM1 := Lib.hid m1; have HM2 := Lib.hid m2; clear m1 m2 i1 i2 hM2 hN2
    have q_l := x_l.al
    have q_u := x_u.al
    have s_0 := x_s.c 8 (.bool b2) rfl
    have s_1 := x_s.c 9 (.slice A2 n2 c2) rfl
    have s_2 := x_s.c 10 (.bool b4) rfl
    have s_3 := x_s.c 11 (.slice A4 n4 c4) rfl
    go_wp2_with fail
    clear s_0 s_1 s_2 s_3
    have l_a_e := x_a.lt
    have l_d_e := x_d.lt
    have l_r_e := x_r.lt
    have l_l_e := x_l.lt
    have l_u_e := x_u.lt
    have e_e : w.heap.size ≤ wr.heap.size := hb.size
    clear q_l q_u
    refine al1c fun v5 hb1 x_e => ?_
    replace x_e := Ex.of x_e
    obtain ⟨x_a, x_d, x_r, x_l, x_u, h, h2, h3, h4⟩ := mv9 hb1 x_a x_d x_r x_l x_u h h2 h3 h4
    obtain ⟨zl, zu, x_s, hb⟩ := mv4 hb1 zl zu x_s hb
    clear hb1
    have q_l := x_l.al
    have q_u := x_u.al
    have q_e := x_e.al
    have hbx := hb
    skip
    with_reducible refine (HAT.out _ _ _ _ _ _ _ _ _ Y V hb h2 h4 (Or.inr rfl)).mono ?_
    rintro e v6 ⟨A7, n7, c7, A8, n8, c8, rfl, z7, z8, hb1⟩
    obtain ⟨x_a, x_d, x_r, x_l, x_u, x_e, h, h2, h3⟩ := mv9 hb1 x_a x_d x_r x_l x_u x_e h h2 h3
    obtain ⟨h4, zl, zu, x_s, hb⟩ := mv5 hb1 h4 zl zu x_s hb
    clear hb1
    replace q_l := x_l.al
    replace q_u := x_u.al
    replace q_e := x_e.al
    clear hbx
    clear h h2 h3 h4
    clear q_e
    have y_l := (((x_l.alloc (.cells #[.bool (ngB (dn Y V)), .slice A7 n7 c7] 24)).alloc (.cells #[.bool (ngB (up Y V)), .slice A8 n8 c8] 24))).al
    have y_u := (((x_u.alloc (.cells #[.bool (ngB (dn Y V)), .slice A7 n7 c7] 24)).alloc (.cells #[.bool (ngB (up Y V)), .slice A8 n8 c8] 24))).al
    go_wp2_with fail
    clear y_l y_u
    have l_a_p := x_a.lt
    have l_d_p := x_d.lt
    have l_r_p := x_r.lt
    have l_l_p := x_l.lt
    have l_u_p := x_u.lt
    have l_e_p := x_e.lt
    have e_p : w.heap.size ≤ v6.heap.size := hb.size
    clear q_l q_u
    refine al2c fun v7 hb1 x_p x_t => ?_
    replace x_p := Bx.of x_p; replace x_t := Bx.of x_t
    obtain ⟨x_a, x_d, x_r, x_l, x_u, x_e, zl, zu, x_s⟩ := mv9 hb1 x_a x_d x_r x_l x_u x_e zl zu x_s
    obtain ⟨z7, z8, hb⟩ := mv3 hb1 z7 z8 hb
    clear hb1
    have q_l := x_l.al
    have q_u := x_u.al
    have q_p := x_p.al
    have q_t := x_t.al
    skip
    with_reducible refine (ZCmp_any z7.zr zl (by omega) (by omega)).mono ?_
    rintro e v8 ⟨rfl, hb1⟩
    obtain ⟨x_a, x_d, x_r, x_l, x_u, x_e, x_p, x_t, zl⟩ := mv9 hb1 x_a x_d x_r x_l x_u x_e x_p x_t zl
    obtain ⟨zu, x_s, z7, z8, hb⟩ := mv5 hb1 zu x_s z7 z8 hb
    clear hb1
    replace q_l := x_l.al
    replace q_u := x_u.al
    replace q_p := x_p.al
    replace q_t := x_t.al
    rw [HC1.out]
    go_wp2_with fail
    with_reducible refine (ZCmp_any z8.zr zu (by omega) (by omega)).mono ?_
    rintro e v9 ⟨rfl, hb1⟩
    obtain ⟨x_a, x_d, x_r, x_l, x_u, x_e, x_p, x_t, zl⟩ := mv9 hb1 x_a x_d x_r x_l x_u x_e x_p x_t zl
    obtain ⟨zu, x_s, z7, z8, hb⟩ := mv5 hb1 zu x_s z7 z8 hb
    clear hb1
    replace q_l := x_l.al
    replace q_u := x_u.al
    replace q_p := x_p.al
    replace q_t := x_t.al
    rw [HC2.out]
    go_wp2
    go_roundw
    case rel => exact ⟨3, by omega, by go_num, hb, ⟨x_a, x_d, x_r, x_s⟩, _, _, _, _, _, _, _, _, x_l, by rw [HM1.out]; exact zl, x_u, by rw [HM2.out]; exact zu⟩
    case measure => simp [intOf]
  ·change Zr wr bl_ Al_ nl_ cl_ (mn4 dn X Y U V) K at zl
   change Zr wr bu_ Au_ nu_ cu_ (mx4 up X Y U V) K at zu
   rw [HM0.out] at zl; rw [HN0.out] at zu
   clear x_s
   have q_a := x_a.al
   have q_d := x_d.al
   have q_r := x_r.al
   have q_l := x_l.al
   have q_u := x_u.al
   go_wp2_with fail
   go_region_held3 (fun w' => w'.cell? ⟨v3.heap.size, 0, none⟩ = some (.bool bl_) ∧ w'.cell? ⟨v3.heap.size, 1, none⟩ = some (.slice Al_ nl_ cl_) ∧ w'.cell? ⟨v3.heap.size + 1, 0, none⟩ = some (.bool bu_) ∧ w'.cell? ⟨v3.heap.size + 1, 1, none⟩ = some (.slice Au_ nu_ cu_) ∧ w'.cell? ⟨w.heap.size, 0, none⟩ = some (.bool b) ∧ w'.cell? ⟨w.heap.size, 1, none⟩ = some (.slice A n c) ∧ w'.cell? ⟨w.heap.size, 2, none⟩ = some (.bool b2) ∧ w'.cell? ⟨w.heap.size, 3, none⟩ = some (.slice A2 n2 c2) ∧ w'.cell? ⟨w.heap.size, 4, none⟩ = some (.int .i64 q))
    (first | (with_reducible exact ⟨x_l.c0, x_l.c1, x_u.c0, x_u.c1, x_a.c0, x_a.c1, x_a.c2, x_a.c3, x_a.c4⟩) | (with_reducible exact ⟨(x_l.aside (by omega)).c0, (x_l.aside (by omega)).c1, (x_u.aside (by omega)).c0, (x_u.aside (by omega)).c1, (x_a.aside (by omega)).c0, (x_a.aside (by omega)).c1, (x_a.aside (by omega)).c2, (x_a.aside (by omega)).c3, (x_a.aside (by omega)).c4⟩) | (with_reducible exact ⟨((x_l.aside (by omega)).aside (by omega)).c0, ((x_l.aside (by omega)).aside (by omega)).c1, ((x_u.aside (by omega)).aside (by omega)).c0, ((x_u.aside (by omega)).aside (by omega)).c1, ((x_a.aside (by omega)).aside (by omega)).c0, ((x_a.aside (by omega)).aside (by omega)).c1, ((x_a.aside (by omega)).aside (by omega)).c2, ((x_a.aside (by omega)).aside (by omega)).c3, ((x_a.aside (by omega)).aside (by omega)).c4⟩) | (with_reducible exact ⟨(x_l.asideD (by omega)).c0, (x_l.asideD (by omega)).c1, (x_u.asideD (by omega)).c0, (x_u.asideD (by omega)).c1, (x_a.asideD (by omega)).c0, (x_a.asideD (by omega)).c1, (x_a.asideD (by omega)).c2, (x_a.asideD (by omega)).c3, (x_a.asideD (by omega)).c4⟩) | (with_reducible exact ⟨((x_l.asideD (by omega)).asideD (by omega)).c0, ((x_l.asideD (by omega)).asideD (by omega)).c1, ((x_u.asideD (by omega)).asideD (by omega)).c0, ((x_u.asideD (by omega)).asideD (by omega)).c1, ((x_a.asideD (by omega)).asideD (by omega)).c0, ((x_a.asideD (by omega)).asideD (by omega)).c1, ((x_a.asideD (by omega)).asideD (by omega)).c2, ((x_a.asideD (by omega)).asideD (by omega)).c3, ((x_a.asideD (by omega)).asideD (by omega)).c4⟩) | (with_reducible exact ⟨(x_l.asideL (by omega)).c0, (x_l.asideL (by omega)).c1, (x_u.asideL (by omega)).c0, (x_u.asideL (by omega)).c1, (x_a.asideL (by omega)).c0, (x_a.asideL (by omega)).c1, (x_a.asideL (by omega)).c2, (x_a.asideL (by omega)).c3, (x_a.asideL (by omega)).c4⟩) | (with_reducible exact ⟨((x_l.asideL (by omega)).asideL (by omega)).c0, ((x_l.asideL (by omega)).asideL (by omega)).c1, ((x_u.asideL (by omega)).asideL (by omega)).c0, ((x_u.asideL (by omega)).asideL (by omega)).c1, ((x_a.asideL (by omega)).asideL (by omega)).c0, ((x_a.asideL (by omega)).asideL (by omega)).c1, ((x_a.asideL (by omega)).asideL (by omega)).c2, ((x_a.asideL (by omega)).asideL (by omega)).c3, ((x_a.asideL (by omega)).asideL (by omega)).c4⟩) | go_keep)
    (first | (go_at_call 176; (with_reducible refine (ZNorm_any zl.drw K (Nat.le_refl _)).mono ?_); rintro e v5 ⟨A7, n7, c7, rfl, z7, hb1⟩; replace hb1 := undrew hb1; obtain ⟨x_a, x_d, x_r, x_l, x_u, h, h2, h3, h4⟩ := mv9 hb1 x_a x_d x_r x_l x_u h h2 h3 h4; obtain ⟨zl, zu, hb⟩ := mv3 hb1 zl zu hb; clear hb1; replace q_a := x_a.al; replace q_d := x_d.al; replace q_r := x_r.al; replace q_l := x_l.al; replace q_u := x_u.al) | (go_at_call 176; (with_reducible refine (ZNorm_any zu K (Nat.le_refl _)).mono ?_); rintro e v6 ⟨A8, n8, c8, rfl, z8, hb1⟩; obtain ⟨x_a, x_d, x_r, x_l, x_u, h, h2, h3, h4⟩ := mv9 hb1 x_a x_d x_r x_l x_u h h2 h3 h4; obtain ⟨zl, zu, z7, hb⟩ := mv4 hb1 zl zu z7 hb; clear hb1; replace q_a := x_a.al; replace q_d := x_d.al; replace q_r := x_r.al; replace q_l := x_l.al; replace q_u := x_u.al))
   go_wp2
   clear q_a q_d q_r q_l q_u
   refine x_r.st fun v7 hs hx => ?_
   obtain ⟨x_a, x_d, x_l, x_u, h, h2, h3, h4, zl⟩ := ms9 hs ⟨by omega, by omega, by omega, by omega, trivial, trivial, trivial, trivial, trivial⟩ x_a x_d x_l x_u h h2 h3 h4 zl
   obtain ⟨zu, z7, z8, hb⟩ := ms4 hs ⟨trivial, trivial, trivial, by omega⟩ zu z7 z8 hb
   replace x_r := hx; clear hx hs
   have q_a := x_a.al
   have q_d := x_d.al
   have q_r := x_r.al
   have q_l := x_l.al
   have q_u := x_u.al
   refine bodyPost_ret (v := .tuple #[.agg #[.bool (ngB M0), .slice A7 n7 c7, .bool (ngB N0), .slice A8 n8 c8, .int .i64 q], .int .i64 0]) (by simp [results, Tryz.results220, go_sem, q_r]) rfl ?_
   exact ⟨_, _, _, _, _, _, rfl, z7, z8, hb⟩
end Go.Proofs.YtdonaominffpnaaGreatDoor
