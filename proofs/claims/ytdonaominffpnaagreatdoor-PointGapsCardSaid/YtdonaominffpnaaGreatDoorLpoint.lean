/-
 ball: Point, Recast, scale.
-/
import Derived.Test.YtdonaominffpnaaGreatDoorEbox
namespace Go.Proofs.YtdonaominffpnaaGreatDoor
variable {A A2 : Option Addr} {X Y q : Int} {b b2 : Bool} {c c2 n n2 : Nat} {w : World}
set_option maxRecDepth 100000
set_option maxHeartbeats 1000000
set_option linter.unusedVariables false
open Go.RowKit
theorem qB_bool {a : Bool} (h : a = b) : Ending.returned (.bool a) = .returned (.bool b) := by rw [h]
def qB (q : Int) : Bool := decide (0 ≤ q ∧ q ≤ 2048)
theorem qB_yes (h : 0 ≤ q ∧ q ≤ 2048) : qB q = true := by unfold qB; simpa using h
theorem qB_no (h : ¬ (0 ≤ q ∧ q ≤ 2048)) : qB q = false := by unfold qB; simp only [decide_eq_false_iff_not]; exact h
theorem sgn_le : sgnI (X - Y) ≤ 0 ↔ X ≤ Y := by
 have := sgnI_gt0 (X := X - Y)
 omega
theorem rightQ_any (q : Int) {w : World} :
  Calls Tryz.prog 70 #[.int .i64 q] w fun e w' => e = .returned (.bool (qB q)) ∧ Below w.heap.size w w' := by
 rcases (show q < 0 ∨ (0 ≤ q ∧ q ≤ 2048) ∨ (0 ≤ q ∧ ¬ q ≤ 2048) by omega) with h | ⟨h, h2⟩ | ⟨h, h2⟩
 ·have hf := qB_no (q := q) (by omega)
  have h3 : ¬ 0 ≤ q := by omega
  have HF := Lib.hid hf; clear hf
  go_enter Tryz.func70, Tryz.ntmps70
  go_wp2
  go_ret
  exact ⟨qB_bool HF.out.symm, Below.refl _ _⟩
 ·have hf := qB_yes (q := q) (by omega)
  have HF := Lib.hid hf; clear hf
  go_enter Tryz.func70, Tryz.ntmps70
  go_wp2
  go_ret
  exact ⟨qB_bool HF.out.symm, Below.refl _ _⟩
 ·have hf := qB_no (q := q) (by omega)
  have HF := Lib.hid hf; clear hf
  go_enter Tryz.func70, Tryz.ntmps70
  go_wp2
  go_ret
  exact ⟨qB_bool HF.out.symm, Below.refl _ _⟩
theorem Right_any {j j2 : Nat} (h : Zr w b A n c X j) (h2 : Zr w b2 A2 n2 c2 Y j2) (hj : j ≤ 1000000) (hj2 : j2 ≤ 1000000) :
  Calls Tryz.prog 29 #[.agg #[.bool b, .slice A n c, .bool b2, .slice A2 n2 c2, .int .i64 q]] w fun e w' => e = .returned (.bool (rB X Y q)) ∧ Below w.heap.size w w' := by
 by_cases hq : 0 ≤ q ∧ q ≤ 2048
 ·have HQ := Lib.hid (qB_yes hq)
  by_cases hXY : X ≤ Y
  ·have HF := Lib.hid (rB_yes (X := X) (Y := Y) (q := q) (by omega))
   have hd : sgnI (X - Y) ≤ 0 := sgn_le.2 hXY
   clear hXY hq
   generalize hC : sgnI (X - Y) = C at hd
   have HC := Lib.hid hC; clear hC
   go_enter Tryz.func29, Tryz.ntmps29
   go_wp2_with fail
   refine al1c fun v1 hb x_a => ?_
   replace x_a := Lx.of x_a
   obtain ⟨h, h2⟩ := mv2 hb h h2
   have q_a := x_a.al
   go_wp2_with fail
   with_reducible refine (rightQ_any q).mono ?_
   rintro e v2 ⟨rfl, hb1⟩
   obtain ⟨x_a, h, h2, hb⟩ := mv4 hb1 x_a h h2 hb
   clear hb1
   replace q_a := x_a.al
   rw [HQ.out]
   go_wp2_with fail
   with_reducible refine (ZCmp_any h h2 hj hj2).mono ?_
   rintro e v3 ⟨rfl, hb1⟩
   obtain ⟨x_a, h, h2, hb⟩ := mv4 hb1 x_a h h2 hb
   clear hb1
   replace q_a := x_a.al
   rw [HC.out]
   go_wp2
   go_ret
   exact ⟨qB_bool HF.out.symm, hb⟩
  ·have HF := Lib.hid (rB_no (X := X) (Y := Y) (q := q) (by omega))
   have hd : ¬ sgnI (X - Y) ≤ 0 := fun hc => hXY (sgn_le.1 hc)
   clear hXY hq
   generalize hC : sgnI (X - Y) = C at hd
   have HC := Lib.hid hC; clear hC
   go_enter Tryz.func29, Tryz.ntmps29
   go_wp2_with fail
   refine al1c fun v1 hb x_a => ?_
   replace x_a := Lx.of x_a
   obtain ⟨h, h2⟩ := mv2 hb h h2
   have q_a := x_a.al
   go_wp2_with fail
   with_reducible refine (rightQ_any q).mono ?_
   rintro e v2 ⟨rfl, hb1⟩
   obtain ⟨x_a, h, h2, hb⟩ := mv4 hb1 x_a h h2 hb
   clear hb1
   replace q_a := x_a.al
   rw [HQ.out]
   go_wp2_with fail
   with_reducible refine (ZCmp_any h h2 hj hj2).mono ?_
   rintro e v3 ⟨rfl, hb1⟩
   obtain ⟨x_a, h, h2, hb⟩ := mv4 hb1 x_a h h2 hb
   clear hb1
   replace q_a := x_a.al
   rw [HC.out]
   go_wp2
   go_ret
   exact ⟨qB_bool ((dec_no (p := C ≤ 0) (by omega)).trans HF.out.symm), hb⟩
 ·have HQ := Lib.hid (qB_no hq)
  have HF := Lib.hid (rB_no (X := X) (Y := Y) (q := q) (by omega))
  clear hq
  go_enter Tryz.func29, Tryz.ntmps29
  go_wp2_with fail
  refine al1c fun v1 hb x_a => ?_
  replace x_a := Lx.of x_a
  obtain ⟨h, h2⟩ := mv2 hb h h2
  have q_a := x_a.al
  go_wp2_with fail
  with_reducible refine (rightQ_any q).mono ?_
  rintro e v2 ⟨rfl, hb1⟩
  obtain ⟨x_a, h, h2, hb⟩ := mv4 hb1 x_a h h2 hb
  clear hb1
  replace q_a := x_a.al
  rw [HQ.out]
  go_wp2
  go_ret
  exact ⟨qB_bool HF.out.symm, hb⟩
theorem low_any (hq : 0 ≤ q ∧ q ≤ 2048) :
  Calls Tryz.prog 82 #[.agg #[.bool b, .slice A n c, .bool b2, .slice A2 n2 c2, .int .i64 q]] w fun e w' => e = .returned (.agg #[.bool b, .slice A n c, .int .i64 (-q)]) ∧ Below w.heap.size w w' := by
 have hwr : IntKind.i64.wrap (-q) = -q := wrap_in (by omega) (by omega)
 go_enter Tryz.func82, Tryz.ntmps82
 go_wp2
 refine bodyPost_ret (v := .agg #[.bool b, .slice A n c, .int .i64 (-q)]) (by simp [results, Tryz.results82, go_sem]) rfl ?_
 exact ⟨rfl, below_alloc2 _ _ _⟩
theorem high_any (hq : 0 ≤ q ∧ q ≤ 2048) :
  Calls Tryz.prog 83 #[.agg #[.bool b, .slice A n c, .bool b2, .slice A2 n2 c2, .int .i64 q]] w fun e w' => e = .returned (.agg #[.bool b2, .slice A2 n2 c2, .int .i64 (-q)]) ∧ Below w.heap.size w w' := by
 have hwr : IntKind.i64.wrap (-q) = -q := wrap_in (by omega) (by omega)
 go_enter Tryz.func83, Tryz.ntmps83
 go_wp2
 refine bodyPost_ret (v := .agg #[.bool b2, .slice A2 n2 c2, .int .i64 (-q)]) (by simp [results, Tryz.results83, go_sem]) rfl ?_
 exact ⟨rfl, below_alloc2 _ _ _⟩
end Go.Proofs.YtdonaominffpnaaGreatDoor
namespace Go.Proofs.YtdonaominffpnaaGreatDoor
variable {X Y e : Int}
set_option linter.unusedVariables false
open Go.RowKit
theorem mulp_le (k : Nat) : X * 2 ^ k ≤ Y * 2 ^ k ↔ X ≤ Y := by
 have hp := two_pow_pos k
 exact ⟨fun h => Int.le_of_mul_le_mul_right h hp, fun h => Int.mul_le_mul_of_nonneg_right h (Int.le_of_lt hp)⟩
theorem vd_le : vd X e ≤ vd Y e ↔ X ≤ Y := mulp_le _
def mn4 (f : Int → Int → Int) (X Y U V : Int) : Int := min (min (min (f X U) (f X V)) (f Y U)) (f Y V)
def mx4 (f : Int → Int → Int) (X Y U V : Int) : Int := max (max (max (f X U) (f X V)) (f Y U)) (f Y V)
def fdI (x y : Int) : Int := if y < 0 then (-x) / (-y) else x / y
def cdI (x y : Int) : Int := -fdI (-x) y
theorem cmp_vdc {f : Int} : sgnI (alP X e f - alQ Y e f) = sgnI (vd (cM X e) (cE e) - vd (cM Y f) (cE f)) := by
 have h := cmp_vd (X := cM X e) (Y := cM Y f) (cE_in e) (cE_in f)
 have h1 : alP (cM X e) (cE e) (cE f) = alP X e f := by
  unfold alP alE; rw [(c_yes (X := cM X e) (cE_in e)).1, (c_yes (X := 0) (cE_in e)).2, (c_yes (X := 0) (cE_in f)).2]
 have h2 : alQ (cM Y f) (cE e) (cE f) = alQ Y e f := by
  unfold alQ alE; rw [(c_yes (X := cM Y f) (cE_in f)).1, (c_yes (X := 0) (cE_in e)).2, (c_yes (X := 0) (cE_in f)).2]
 rw [h1, h2] at h
 exact h
def hasB (X Y q M e : Int) : Bool := decide ((0 ≤ q ∧ q ≤ 2048 ∧ X ≤ Y) ∧ vd X (-q) ≤ vd (cM M e) (cE e) ∧ vd (cM M e) (cE e) ≤ vd Y (-q))
end Go.Proofs.YtdonaominffpnaaGreatDoor
namespace Go.Proofs.YtdonaominffpnaaGreatDoor
variable {A : Option Addr} {X e q : Int} {b : Bool} {c j n : Nat} {w : World}
set_option maxRecDepth 100000
set_option maxHeartbeats 2000000
set_option linter.unusedVariables false
open Go.RowKit
theorem li_q (h : -4000 ≤ q ∧ q ≤ 4000) : li q = q := by unfold li; omega
theorem Floor_q (h : Zr w b A n c X j) (q : Int) (hq : -4000 ≤ q ∧ q ≤ 4000) (k : Nat) (hk : j + 128 ≤ k) (hj : k ≤ 1000000) :
  Calls Tryz.prog 131 #[.agg #[.bool b, .slice A n c, .int .i64 e], .int .i64 q] w (OutZ w (flI (cM X e) (cE e + q)) k) := by
 have := DFloor_any (e := e) h q k hk hj
 rw [li_q hq] at this
 exact this
theorem Ceil_q (h : Zr w b A n c X j) (q : Int) (hq : -4000 ≤ q ∧ q ≤ 4000) (k : Nat) (hk : j + 128 ≤ k) (hj : k ≤ 1000000) :
  Calls Tryz.prog 132 #[.agg #[.bool b, .slice A n c, .int .i64 e], .int .i64 q] w (OutZ w (-flI (-cM X e) (cE e + q)) k) := by
 have := DCeil_any (e := e) h q k hk hj
 rw [li_q hq] at this
 exact this
theorem Floor_at (h : Zr w b A n c X j) (q : Int) (he : -4000 ≤ e ∧ e ≤ 4000) (hq : -4000 ≤ q ∧ q ≤ 4000) (k : Nat) (hk : j + 128 ≤ k) (hj : k ≤ 1000000) :
  Calls Tryz.prog 131 #[.agg #[.bool b, .slice A n c, .int .i64 e], .int .i64 q] w (OutZ w (flI X (e + q)) k) := by
 have := Floor_q (e := e) h q hq k hk hj
 rw [(c_yes (X := X) he).1, (c_yes (X := X) he).2] at this
 exact this
theorem Ceil_at (h : Zr w b A n c X j) (q : Int) (he : -4000 ≤ e ∧ e ≤ 4000) (hq : -4000 ≤ q ∧ q ≤ 4000) (k : Nat) (hk : j + 128 ≤ k) (hj : k ≤ 1000000) :
  Calls Tryz.prog 132 #[.agg #[.bool b, .slice A n c, .int .i64 e], .int .i64 q] w (OutZ w (-flI (-X) (e + q)) k) := by
 have := Ceil_q (e := e) h q hq k hk hj
 rw [(c_yes (X := X) he).1, (c_yes (X := X) he).2] at this
 exact this
def Out2Z (w : World) (X Y : Int) (k : Nat) (e : Ending) (w' : World) : Prop := ∃ A n c A2 n2 c2, e = .returned (.tuple #[.agg #[.bool (ngB X), .slice A n c], .agg #[.bool (ngB Y), .slice A2 n2 c2]]) ∧ Zn w' A n c X k ∧ Zn w' A2 n2 c2 Y k ∧ Below w.heap.size w w'
theorem Point_yes (h : Zr w b A n c X j) (q : Int) (hq : 0 ≤ q ∧ q ≤ 2048) (k : Nat) (hk : j + 128 ≤ k) (hj : k ≤ 1000000) :
  Calls Tryz.prog 207 #[.agg #[.bool b, .slice A n c, .int .i64 e], .int .i64 q] w (OuL w (flI (cM X e) (cE e + q)) (-flI (-cM X e) (cE e + q)) q k) := by
 have HQ := Lib.hid (qB_yes hq)
 obtain ⟨L, hL⟩ : ∃ L, flI (cM X e) (cE e + q) = L := ⟨_, rfl⟩
 obtain ⟨H, hH⟩ : ∃ H, -flI (-cM X e) (cE e + q) = H := ⟨_, rfl⟩
 rw [hL, hH]
 have HL := Lib.hid hL; have HH := Lib.hid hH; clear hL hH
 go_enter Tryz.func207, Tryz.ntmps207
 go_wp2_with fail
 refine al2c fun v1 hb x_d x_r => ?_
 replace x_d := Dx.of x_d; replace x_r := Lx.of x_r
 replace h := Mv.mv h hb
 have q_d := x_d.al
 have q_r := x_r.al
 go_wp2_with fail
 with_reducible refine (rightQ_any q).mono ?_
 rintro e v2 ⟨rfl, hb1⟩
 obtain ⟨x_d, x_r, h, hb⟩ := mv4 hb1 x_d x_r h hb
 clear hb1
 replace q_d := x_d.al
 replace q_r := x_r.al
 rw [HQ.out]
 go_wp2_with fail
 go_region_held3 (fun w' => w'.cell? ⟨w.heap.size, 0, none⟩ = some (.bool b) ∧ w'.cell? ⟨w.heap.size, 1, none⟩ = some (.slice A n c) ∧ w'.cell? ⟨w.heap.size, 2, none⟩ = some (.int .i64 e))
  (first | (with_reducible exact ⟨x_d.c0, x_d.c1, x_d.c2⟩) | (with_reducible exact ⟨(x_d.aside (by omega)).c0, (x_d.aside (by omega)).c1, (x_d.aside (by omega)).c2⟩) | (with_reducible exact ⟨((x_d.aside (by omega)).aside (by omega)).c0, ((x_d.aside (by omega)).aside (by omega)).c1, ((x_d.aside (by omega)).aside (by omega)).c2⟩) | (with_reducible exact ⟨(x_d.asideD (by omega)).c0, (x_d.asideD (by omega)).c1, (x_d.asideD (by omega)).c2⟩) | (with_reducible exact ⟨((x_d.asideD (by omega)).asideD (by omega)).c0, ((x_d.asideD (by omega)).asideD (by omega)).c1, ((x_d.asideD (by omega)).asideD (by omega)).c2⟩) | (with_reducible exact ⟨(x_d.asideL (by omega)).c0, (x_d.asideL (by omega)).c1, (x_d.asideL (by omega)).c2⟩) | (with_reducible exact ⟨((x_d.asideL (by omega)).asideL (by omega)).c0, ((x_d.asideL (by omega)).asideL (by omega)).c1, ((x_d.asideL (by omega)).asideL (by omega)).c2⟩) | go_keep)
  (first | (go_at_call 131; (with_reducible refine (Floor_q h.drw q (by omega) k hk hj).mono ?_); rintro e v3 ⟨A5, n5, c5, rfl, z5, hb1⟩; replace hb1 := undrew hb1; obtain ⟨x_d, x_r, h, hb⟩ := mv4 hb1 x_d x_r h hb; clear hb1; replace q_d := x_d.al; replace q_r := x_r.al; rw [HL.out] at z5 ⊢) | (go_at_call 132; (with_reducible refine (Ceil_q h q (by omega) k hk hj).mono ?_); rintro e v4 ⟨A6, n6, c6, rfl, z6, hb1⟩; obtain ⟨x_d, x_r, h, z5, hb⟩ := mv5 hb1 x_d x_r h z5 hb; clear hb1; replace q_d := x_d.al; replace q_r := x_r.al; rw [HH.out] at z6 ⊢))
 go_wp2
 clear q_d q_r
 refine x_r.st fun v5 hs hx => ?_
 obtain ⟨x_d, h, z5, z6, hb⟩ := ms5 hs ⟨by omega, trivial, trivial, trivial, by omega⟩ x_d h z5 z6 hb
 replace x_r := hx; clear hx hs
 have q_d := x_d.al
 have q_r := x_r.al
 refine bodyPost_ret (v := .tuple #[.agg #[.bool (ngB L), .slice A5 n5 c5, .bool (ngB H), .slice A6 n6 c6, .int .i64 q], .int .i64 0]) (by simp [results, Tryz.results207, go_sem, q_r]) rfl ?_
 exact ⟨_, _, _, _, _, _, rfl, z5, z6, hb⟩
theorem Recast_yes {b2 : Bool} {A2 : Option Addr} {n2 c2 : Nat} {Y : Int} {j2 : Nat} (h : Zr w b A n c X j) (h2 : Zr w b2 A2 n2 c2 Y j2) (p : Int) (hv : 0 ≤ q ∧ q ≤ 2048 ∧ X ≤ Y) (hp : 0 ≤ p ∧ p ≤ 2048) (k : Nat) (hk : j + 128 ≤ k) (hk2 : j2 + 128 ≤ k) (hj : k ≤ 1000000) :
  Calls Tryz.prog 87 #[.agg #[.bool b, .slice A n c, .bool b2, .slice A2 n2 c2, .int .i64 q], .int .i64 p] w (OuL w (flI X (-q + p)) (-flI (-Y) (-q + p)) p k) := by
 have HQ := Lib.hid (qB_yes hp)
 have HR := Lib.hid (rB_yes hv)
 have hq : 0 ≤ q ∧ q ≤ 2048 := ⟨hv.1, hv.2.1⟩
 clear hv
 obtain ⟨L, hL⟩ : ∃ L, flI X (-q + p) = L := ⟨_, rfl⟩
 obtain ⟨H, hH⟩ : ∃ H, -flI (-Y) (-q + p) = H := ⟨_, rfl⟩
 rw [hL, hH]
 have HL := Lib.hid hL; have HH := Lib.hid hH; clear hL hH
 go_enter Tryz.func87, Tryz.ntmps87
 go_wp2_with fail
 refine al2c fun v1 hb x_a x_r => ?_
 replace x_a := Lx.of x_a; replace x_r := Lx.of x_r
 obtain ⟨h, h2⟩ := mv2 hb h h2
 have q_a := x_a.al
 have q_r := x_r.al
 go_wp2_with fail
 with_reducible refine (Right_any h h2 (by omega) (by omega)).mono ?_
 rintro e v2 ⟨rfl, hb1⟩
 obtain ⟨x_a, x_r, h, h2, hb⟩ := mv5 hb1 x_a x_r h h2 hb
 clear hb1
 replace q_a := x_a.al
 replace q_r := x_r.al
 rw [HR.out]
 go_wp2_with fail
 with_reducible refine (rightQ_any p).mono ?_
 rintro e v3 ⟨rfl, hb1⟩
 obtain ⟨x_a, x_r, h, h2, hb⟩ := mv5 hb1 x_a x_r h h2 hb
 clear hb1
 replace q_a := x_a.al
 replace q_r := x_r.al
 rw [HQ.out]
 go_wp2_with fail
 go_region_held3 (fun w' => w'.cell? ⟨w.heap.size, 0, none⟩ = some (.bool b) ∧ w'.cell? ⟨w.heap.size, 1, none⟩ = some (.slice A n c) ∧ w'.cell? ⟨w.heap.size, 2, none⟩ = some (.bool b2) ∧ w'.cell? ⟨w.heap.size, 3, none⟩ = some (.slice A2 n2 c2) ∧ w'.cell? ⟨w.heap.size, 4, none⟩ = some (.int .i64 q))
  (first | (with_reducible exact ⟨x_a.c0, x_a.c1, x_a.c2, x_a.c3, x_a.c4⟩) | (with_reducible exact ⟨(x_a.aside (by omega)).c0, (x_a.aside (by omega)).c1, (x_a.aside (by omega)).c2, (x_a.aside (by omega)).c3, (x_a.aside (by omega)).c4⟩) | (with_reducible exact ⟨((x_a.aside (by omega)).aside (by omega)).c0, ((x_a.aside (by omega)).aside (by omega)).c1, ((x_a.aside (by omega)).aside (by omega)).c2, ((x_a.aside (by omega)).aside (by omega)).c3, ((x_a.aside (by omega)).aside (by omega)).c4⟩) | (with_reducible exact ⟨(x_a.asideD (by omega)).c0, (x_a.asideD (by omega)).c1, (x_a.asideD (by omega)).c2, (x_a.asideD (by omega)).c3, (x_a.asideD (by omega)).c4⟩) | (with_reducible exact ⟨((x_a.asideD (by omega)).asideD (by omega)).c0, ((x_a.asideD (by omega)).asideD (by omega)).c1, ((x_a.asideD (by omega)).asideD (by omega)).c2, ((x_a.asideD (by omega)).asideD (by omega)).c3, ((x_a.asideD (by omega)).asideD (by omega)).c4⟩) | (with_reducible exact ⟨(x_a.asideL (by omega)).c0, (x_a.asideL (by omega)).c1, (x_a.asideL (by omega)).c2, (x_a.asideL (by omega)).c3, (x_a.asideL (by omega)).c4⟩) | (with_reducible exact ⟨((x_a.asideL (by omega)).asideL (by omega)).c0, ((x_a.asideL (by omega)).asideL (by omega)).c1, ((x_a.asideL (by omega)).asideL (by omega)).c2, ((x_a.asideL (by omega)).asideL (by omega)).c3, ((x_a.asideL (by omega)).asideL (by omega)).c4⟩) | go_keep)
  (first | (go_at_call 82; (with_reducible refine (low_any hq).mono ?_); rintro e v4 ⟨rfl, hb1⟩; replace hb1 := undrew hb1; obtain ⟨x_a, x_r, h, h2, hb⟩ := mv5 hb1 x_a x_r h h2 hb; clear hb1; replace q_a := x_a.al; replace q_r := x_r.al) | (go_at_call 131; (with_reducible refine (Floor_at h p (by omega) (by omega) k hk hj).mono ?_); rintro e v5 ⟨A5, n5, c5, rfl, z5, hb1⟩; obtain ⟨x_a, x_r, h, h2, hb⟩ := mv5 hb1 x_a x_r h h2 hb; clear hb1; replace q_a := x_a.al; replace q_r := x_r.al; rw [HL.out] at z5 ⊢) | (go_at_call 83; (with_reducible refine (high_any hq).mono ?_); rintro e v6 ⟨rfl, hb1⟩; obtain ⟨x_a, x_r, h, h2, z5, hb⟩ := mv6 hb1 x_a x_r h h2 z5 hb; clear hb1; replace q_a := x_a.al; replace q_r := x_r.al) | (go_at_call 132; (with_reducible refine (Ceil_at h2 p (by omega) (by omega) k hk2 hj).mono ?_); rintro e v7 ⟨A6, n6, c6, rfl, z6, hb1⟩; obtain ⟨x_a, x_r, h, h2, z5, hb⟩ := mv6 hb1 x_a x_r h h2 z5 hb; clear hb1; replace q_a := x_a.al; replace q_r := x_r.al; rw [HH.out] at z6 ⊢))
 go_wp2
 clear q_a q_r
 refine x_r.st fun v8 hs hx => ?_
 obtain ⟨x_a, h, h2, z5, z6, hb⟩ := ms6 hs ⟨by omega, trivial, trivial, trivial, trivial, by omega⟩ x_a h h2 z5 z6 hb
 replace x_r := hx; clear hx hs
 have q_a := x_a.al
 have q_r := x_r.al
 refine bodyPost_ret (v := .tuple #[.agg #[.bool (ngB L), .slice A5 n5 c5, .bool (ngB H), .slice A6 n6 c6, .int .i64 p], .int .i64 0]) (by simp [results, Tryz.results87, go_sem, q_r]) rfl ?_
 exact ⟨_, _, _, _, _, _, rfl, z5, z6, hb⟩
theorem scale_any (h : Zr w b A n c X j) (e : Int) (he : -4000 ≤ e ∧ e ≤ 4000) (k : Nat) (hk : j + 128 ≤ k) (hj : k ≤ 1000000) :
  Calls Tryz.prog 250 #[.agg #[.bool b, .slice A n c], .int .i64 e] w (Out2Z w (flI X e) (-flI (-X) e) k) := by
 obtain ⟨L, hL⟩ : ∃ L, flI X e = L := ⟨_, rfl⟩
 obtain ⟨H, hH⟩ : ∃ H, -flI (-X) e = H := ⟨_, rfl⟩
 have he0 : e + 0 = e := Int.add_zero e
 rw [hL, hH]
 have HL := Lib.hid hL; have HH := Lib.hid hH; have HE := Lib.hid he0; clear hL hH he0
 go_enter Tryz.func250, Tryz.ntmps250
 go_wp2_with fail
 refine al4 fun v1 hb x_m x_x x_y x_d => ?_
 replace x_m := Bx.of x_m; replace x_x := Bx.of x_x; replace x_y := Bx.of x_y; replace x_d := Dx.of x_d
 replace h := Mv.mv h hb
 have q_m := x_m.al
 have q_x := x_x.al
 have q_y := x_y.al
 have q_d := x_d.al
 go_region_held3 (fun w' => w'.cell? ⟨w.heap.size + 1 + 1 + 1, 0, none⟩ = some (.bool b) ∧ w'.cell? ⟨w.heap.size + 1 + 1 + 1, 1, none⟩ = some (.slice A n c) ∧ w'.cell? ⟨w.heap.size + 1 + 1 + 1, 2, none⟩ = some (.int .i64 e))
  (first | (with_reducible exact ⟨x_d.c0, x_d.c1, x_d.c2⟩) | (with_reducible exact ⟨(x_d.aside (by omega)).c0, (x_d.aside (by omega)).c1, (x_d.aside (by omega)).c2⟩) | (with_reducible exact ⟨((x_d.aside (by omega)).aside (by omega)).c0, ((x_d.aside (by omega)).aside (by omega)).c1, ((x_d.aside (by omega)).aside (by omega)).c2⟩) | (with_reducible exact ⟨(x_d.asideD (by omega)).c0, (x_d.asideD (by omega)).c1, (x_d.asideD (by omega)).c2⟩) | (with_reducible exact ⟨((x_d.asideD (by omega)).asideD (by omega)).c0, ((x_d.asideD (by omega)).asideD (by omega)).c1, ((x_d.asideD (by omega)).asideD (by omega)).c2⟩) | (with_reducible exact ⟨(x_d.asideL (by omega)).c0, (x_d.asideL (by omega)).c1, (x_d.asideL (by omega)).c2⟩) | (with_reducible exact ⟨((x_d.asideL (by omega)).asideL (by omega)).c0, ((x_d.asideL (by omega)).asideL (by omega)).c1, ((x_d.asideL (by omega)).asideL (by omega)).c2⟩) | go_keep)
  (first | (go_at_call 131; (with_reducible refine (Floor_at h.drw 0 he (by omega) k hk hj).mono ?_); rintro e v2 ⟨A5, n5, c5, rfl, z5, hb1⟩; replace hb1 := undrew hb1; obtain ⟨x_m, x_x, x_y, x_d, h, hb⟩ := mv6 hb1 x_m x_x x_y x_d h hb; clear hb1; replace q_m := x_m.al; replace q_x := x_x.al; replace q_y := x_y.al; replace q_d := x_d.al; rw [HE.out, HL.out] at z5; rw [HE.out, HL.out]) | (go_at_call 132; (with_reducible refine (Ceil_at h 0 he (by omega) k hk hj).mono ?_); rintro e v3 ⟨A6, n6, c6, rfl, z6, hb1⟩; obtain ⟨x_m, x_x, x_y, x_d, h, z5, hb⟩ := mv7 hb1 x_m x_x x_y x_d h z5 hb; clear hb1; replace q_m := x_m.al; replace q_x := x_x.al; replace q_y := x_y.al; replace q_d := x_d.al; rw [HE.out, HH.out] at z6; rw [HE.out, HH.out]))
 go_wp2
 clear q_m q_x q_y q_d
 refine x_x.st2 x_y (by omega) fun _ v4 hs hs2 hx hy => ?_
 obtain ⟨x_m, x_d, h, z5, z6, hb⟩ := ms6 hs ⟨by omega, by omega, trivial, trivial, trivial, by omega⟩ x_m x_d h z5 z6 hb
 obtain ⟨x_m, x_d, h, z5, z6, hb⟩ := ms6 hs2 ⟨by omega, by omega, trivial, trivial, trivial, by omega⟩ x_m x_d h z5 z6 hb
 replace x_x := hx; replace x_y := hy; clear hx hy hs hs2
 have q_m := x_m.al
 have q_x := x_x.al
 have q_y := x_y.al
 have q_d := x_d.al
 refine bodyPost_ret (v := .tuple #[.agg #[.bool (ngB L), .slice A5 n5 c5], .agg #[.bool (ngB H), .slice A6 n6 c6]]) (by simp [results, Tryz.results250, go_sem, q_x, q_y]) rfl ?_
 exact ⟨_, _, _, _, _, _, rfl, z5, z6, hb⟩
end Go.Proofs.YtdonaominffpnaaGreatDoor
