/-
 the laws of elem: what the values have to do with each other.
-/
import Derived.Test.YtjlbngjeekdfcaaGreatDoorEsmall
import Derived.Test.YtjlbngjeekdfcaaGreatDoorEnum6
import Derived.Laws.BitsAllLaws
namespace Go.Proofs.YtjlbngjeekdfcaaGreatDoor
variable {X : Int}
set_option linter.unusedVariables false
open Go.RowKit
open MX (bLo bHi tA tZ xK xR xS yR yS uR uS gR gS hR hS wK wR wS vJ vKi vN vLo vHi nq Hd Rb Rr lam al um E p2 sn cs)
def Vf (i X e : Int) (m : Nat) : Rat :=
 if i = 0 then E m (nq X e)
 else if i = 1 then p2 (flI X e) * E m ((nq X e - flI X e) * lam m)
 else if i = 2 then al m (um (nq X (e - lgI X e))) + lgI X e * lam m
 else if i = 3 then al m (um (nq X (e - lgI X e))) / lam m + lgI X e
 else if i = 4 then sn m (nq X e)
 else cs m (nq X e)
structure Fx (i X e : Int) (q : Nat) (P R : Int) : Prop where
 hd : Hd P R q (Vf i X e)
 wv : i = 4 ∨ i = 5 → -(twP q + 2) ≤ P ∧ R ≤ twP q + 2
 lg : i = 2 → Sl X e → q ≤ 127 → -(64 * twP q) ≤ P ∧ R ≤ 64 * twP q
def OuV (w : World) (q : Int) (F : Int → Int → Prop) (e : Ending) (w' : World) : Prop := ∃ X Y A n c A2 n2 c2, e = .returned (.tuple #[.agg #[.bool (ngB X), .slice A n c, .bool (ngB Y), .slice A2 n2 c2, .int .i64 q], .bool true]) ∧ Zn w' A n c X 140 ∧ Zn w' A2 n2 c2 Y 140 ∧ X ≤ Y ∧ F X Y ∧ Below w.heap.size w w'
theorem OuT.v {w w' : World} {Y q : Int} {F : Int → Int → Prop} {e : Ending} (h : OuT w X Y q e w') (hl : X ≤ Y) (hF : F X Y) : OuV w q F e w' := by
 obtain ⟨A, n, c, A2, n2, c2, he, z, z2, hb⟩ := h
 exact ⟨X, Y, A, n, c, A2, n2, c2, he, z, z2, hl, hF, hb⟩
theorem fl0 (X : Int) : flI X 0 = X := by unfold flI; rw [if_neg (by omega)]; simp
theorem fl00 {P R : Int} {q : Nat} {V : Nat → Rat} (h : Hd (rcL P q) (rcH R q) q V) : Hd (flI (rcL P q) 0) (-flI (-rcH R q) 0) q V := by
 rw [fl0, fl0, Int.neg_neg]; exact h
theorem nq_ab {e : Int} : (if decide (X < 0) = true then -nq (X.natAbs : Int) e else nq (X.natAbs : Int) e) = nq X e := by
 rcases (show X < 0 ∨ ¬ X < 0 by omega) with h | h
 ·rw [if_pos (by simpa using h), show (X.natAbs : Int) = -X by omega, MX.nq_neg]; grind
 ·rw [if_neg (by simpa using h), show (X.natAbs : Int) = X by omega]
section
variable {b : Bool} {A : Option Addr} {n c : Nat} {X e : Int} {w : World}
theorem Fat {i : Int} (hi : 0 ≤ i ∧ i ≤ 5) (h : Zr w b A n c X 8) (hT : Tab w) (a : Ar X e) {q : Nat} (hq : q < 216) (hp : i = 2 ∨ i = 3 → 0 < X ∧ -100 ≤ lgI X e) : Calls Tryz.prog 12 #[.int .i64 i, .agg #[.bool b, .slice A n c, .int .i64 e], .int .i64 (q : Nat)] w (OuV w q (Fx i X e q)) := by
 have HW : 40 ≤ q + 40 ∧ q + 40 < 256 := by omega
 have hE : -4000 ≤ e := by have := a.lo; omega
 have hX : Si X 8 := h.si
 have l6 := a.lg.1
 rcases (show i = 0 ∨ i = 1 ∨ i = 2 ∨ i = 3 ∨ i = 4 ∨ i = 5 by omega) with rfl | rfl | rfl | rfl | rfl | rfl
 ·have en := exp_en a HW
  have hd := MX.exp_hd hq hE a.b ((q + 40) / 4 + 10) (by omega)
  have x := MX.xR_ok HW hE a.b
  exact (Eat_of (by omega) (fun w hT h => EAt0 h hT a hq) h hT (rc_le en.le) ⟨by omega, by omega⟩).mono fun e w' he => he.v hd.le ⟨hd, fun k => by omega, fun k => by omega⟩
 ·have en := exp2_en a hX HW
  have r2 := a.r2 hX (by omega)
  have fl := a.fl
  have hd := MX.exp2_hd (K := flI X e) hq r2.1.1 (by omega) r2.2.2 ((q + 40) / 4 + 10) (by omega)
  rw [r2.2.1] at hd
  exact (Eat_of (by omega) (fun w hT h => EAt1 h hT a hq) h hT (rc_le en.le) ⟨by omega, by omega⟩).mono fun e w' he => he.v hd.le ⟨hd, fun k => by omega, fun k => by omega⟩
 ·obtain ⟨h0, hl⟩ := hp (Or.inl rfl)
  have s := a.sh h0 hl
  have en := log_en a h0 hl HW
  have hd := fl00 (MX.log_hd (ℓ := lgI X e) (q := q) (by omega) s.2.1.1 s.2.2 ((q + 40) / 3 + 2))
  refine (Eat_of (by omega) (fun w hT h => EAt2 h hT a hq h0 hl) h hT (rc_le en.le) ⟨by omega, by omega⟩).mono fun e w' he => he.v hd.le ⟨hd, fun k => by omega, fun _ sl h7 => ?_⟩
  have g := log_64 sl h0 h7
  have l := en.le
  rw [fl0, fl0, Int.neg_neg]
  exact ⟨(rc_bd64 ⟨g.1, by omega⟩).1.1, (rc_bd64 ⟨by omega, g.2⟩).2.2⟩
 ·obtain ⟨h0, hl⟩ := hp (Or.inr rfl)
  have s := a.sh h0 hl
  have en := log2_en a h0 hl HW
  have hd := fl00 (MX.log2_hd (ℓ := lgI X e) hq s.2.1.1 s.2.2 ((q + 40) / 3 + 2))
  exact (Eat_of (by omega) (fun w hT h => EAt3 h hT a hq h0 hl) h hT (rc_le en.le) ⟨by omega, by omega⟩).mono fun e w' he => he.v hd.le ⟨hd, fun k => by omega, fun k => by omega⟩
 all_goals
  have hn : 0 ≤ nq (X.natAbs : Int) e ∧ nq (X.natAbs : Int) e ≤ nq 64 0 := by
   refine ⟨nq_nn (by omega), ?_⟩
   rcases (show (X.natAbs : Int) = X ∨ (X.natAbs : Int) = -X by omega) with g | g
   ·rw [g]; exact a.b.2
   ·rw [g]; exact a.neg.b.2
 ·have en := wave_en (co := false) (neg := decide (X < 0)) a HW
  have hd := MX.wave_hd (c := false) (neg := decide (X < 0)) hq hE hn ((q + 40) / 8 + 6) (by omega)
  have bd := MX.v_bd (c := false) (neg := decide (X < 0)) HW hE hn (n := (q + 40) / 8 + 6) (by omega)
  have hv : Hd (flI (rcL (vLo false (decide (X < 0)) (X.natAbs : Int) e (q + 40) ((q + 40) / 8 + 6)) q) 0) (-flI (-rcH (vHi false (decide (X < 0)) (X.natAbs : Int) e (q + 40) ((q + 40) / 8 + 6)) q) 0) q (Vf 4 X e) := by
   refine fl00 ?_
   have ev : (fun m => if false = true then cs m (if decide (X < 0) = true then -nq (X.natAbs : Int) e else nq (X.natAbs : Int) e) else sn m (if decide (X < 0) = true then -nq (X.natAbs : Int) e else nq (X.natAbs : Int) e)) = Vf 4 X e := funext fun m => by rw [nq_ab]; rfl
   rw [← ev]; exact hd
  refine (Eat_of (by omega) (fun w hT h => EAt4 h hT a hq) h hT (rc_le en.le) ⟨by omega, by omega⟩).mono fun e w' he => he.v hv.le ⟨hv, fun _ => ?_, fun k => by omega⟩
  rw [fl0, fl0, Int.neg_neg]
  exact ⟨MX.recast_bd2 bd.2 (by omega), MX.recast_bd bd.1 (by omega)⟩
 ·have en := wave_en (co := true) (neg := decide (X < 0)) a HW
  have hd := MX.wave_hd (c := true) (neg := decide (X < 0)) hq hE hn ((q + 40) / 8 + 6) (by omega)
  have bd := MX.v_bd (c := true) (neg := decide (X < 0)) HW hE hn (n := (q + 40) / 8 + 6) (by omega)
  have hv : Hd (flI (rcL (vLo true (decide (X < 0)) (X.natAbs : Int) e (q + 40) ((q + 40) / 8 + 6)) q) 0) (-flI (-rcH (vHi true (decide (X < 0)) (X.natAbs : Int) e (q + 40) ((q + 40) / 8 + 6)) q) 0) q (Vf 5 X e) := by
   refine fl00 ?_
   have ev : (fun m => if true = true then cs m (if decide (X < 0) = true then -nq (X.natAbs : Int) e else nq (X.natAbs : Int) e) else sn m (if decide (X < 0) = true then -nq (X.natAbs : Int) e else nq (X.natAbs : Int) e)) = Vf 5 X e := funext fun m => by rw [nq_ab]; rfl
   rw [← ev]; exact hd
  refine (Eat_of (by omega) (fun w hT h => EAt5 h hT a hq) h hT (rc_le en.le) ⟨by omega, by omega⟩).mono fun e w' he => he.v hv.le ⟨hv, fun _ => ?_, fun k => by omega⟩
  rw [fl0, fl0, Int.neg_neg]
  exact ⟨MX.recast_bd2 bd.2 (by omega), MX.recast_bd bd.1 (by omega)⟩
end
end Go.Proofs.YtjlbngjeekdfcaaGreatDoor
namespace Go.Proofs.YtjlbngjeekdfcaaGreatDoor
variable {X Y Z e f : Int} {k : Nat}
set_option maxRecDepth 100000
set_option maxHeartbeats 2000000
set_option linter.unusedVariables false
open Go.RowKit
theorem DAdd_any {b b2 : Bool} {A A2 : Option Addr} {n c n2 c2 : Nat} {j j2 : Nat} {w : World} (h : Zr w b A n c X j) (h2 : Zr w b2 A2 n2 c2 Y j2) (hT : Tab w) (k : Nat) (hk : j + 129 ≤ k) (hk2 : j2 + 129 ≤ k) (hj : k ≤ 100000) :
  Calls Tryz.prog 15 #[.agg #[.bool b, .slice A n c, .int .i64 e], .agg #[.bool b2, .slice A2 n2 c2, .int .i64 f]] w (OutD w (od (alP X e f + alQ Y e f)) (nE (alP X e f + alQ Y e f) (alE e f)) (k + 1)) := by
 have hm := alE_in e f
 go_enter Tryz.func15, Tryz.ntmps15
 go_wp2_with fail
 have x_a : Dx (w.alloc (.cells #[.bool b, .slice A n c, .int .i64 e] 26)) (w.heap.size) b A n c e := by have := Dx.new w b A n c e; simpa using this
 replace x_a := x_a.alloc (.cells #[.bool b2, .slice A2 n2 c2, .int .i64 f] 26)
 have x_b : Dx ((w.alloc (.cells #[.bool b, .slice A n c, .int .i64 e] 26)).alloc (.cells #[.bool b2, .slice A2 n2 c2, .int .i64 f] 26)) (w.heap.size + 1) b2 A2 n2 c2 f := by have := Dx.new (w.alloc (.cells #[.bool b, .slice A n c, .int .i64 e] 26)) b2 A2 n2 c2 f; simpa using this
 replace x_a := x_a.alloc (.cells #[.bool false, .slice none 0 0, .int .i64 0] 26)
 replace x_b := x_b.alloc (.cells #[.bool false, .slice none 0 0, .int .i64 0] 26)
 have x_r : Dx (((w.alloc (.cells #[.bool b, .slice A n c, .int .i64 e] 26)).alloc (.cells #[.bool b2, .slice A2 n2 c2, .int .i64 f] 26)).alloc (.cells #[.bool false, .slice none 0 0, .int .i64 0] 26)) (w.heap.size + 1 + 1) false none 0 0 0 := by have := Dx.new ((w.alloc (.cells #[.bool b, .slice A n c, .int .i64 e] 26)).alloc (.cells #[.bool b2, .slice A2 n2 c2, .int .i64 f] 26)) false none 0 0 0; simpa using this
 have hb : Below w.heap.size w (((w.alloc (.cells #[.bool b, .slice A n c, .int .i64 e] 26)).alloc (.cells #[.bool b2, .slice A2 n2 c2, .int .i64 f] 26)).alloc (.cells #[.bool false, .slice none 0 0, .int .i64 0] 26)) := (Below.alloc (Below.alloc (Below.alloc (Below.refl w.heap.size w) (by simp) (.cells #[.bool b, .slice A n c, .int .i64 e] 26)) (by simp) (.cells #[.bool b2, .slice A2 n2 c2, .int .i64 f] 26)) (by simp; omega) (.cells #[.bool false, .slice none 0 0, .int .i64 0] 26))
 generalize ((w.alloc (.cells #[.bool b, .slice A n c, .int .i64 e] 26)).alloc (.cells #[.bool b2, .slice A2 n2 c2, .int .i64 f] 26)).alloc (.cells #[.bool false, .slice none 0 0, .int .i64 0] 26) = v1 at *
 obtain ⟨h, h2, hT⟩ := mv3 hb h h2 hT
 have q_a := x_a.al
 have q_b := x_b.al
 have q_r := x_r.al
 go_wp2_with fail
 with_reducible refine (align_any h h2 (k - 1) (by omega) (by omega) (by omega)).mono ?_
 rintro e v2 ⟨A5, n5, c5, A6, n6, c6, rfl, z5, z6, hb1⟩
 obtain ⟨x_a, x_b, x_r, h, h2, hT⟩ := mv6 hb1 x_a x_b x_r h h2 hT
 replace hb := bthen hb hb1
 clear hb1
 replace q_a := x_a.al
 replace q_b := x_b.al
 replace q_r := x_r.al
 clear h h2
 have y_a := ((x_a.alloc (.cells #[.bool (ngB (alP X e f)), .slice A5 n5 c5] 24)).alloc (.cells #[.bool (ngB (alQ Y e f)), .slice A6 n6 c6] 24)); have yq_a0 := y_a.c0; have yq_a1 := y_a.c1; have yq_a2 := y_a.c2
 have y_b := ((x_b.alloc (.cells #[.bool (ngB (alP X e f)), .slice A5 n5 c5] 24)).alloc (.cells #[.bool (ngB (alQ Y e f)), .slice A6 n6 c6] 24)); have yq_b0 := y_b.c0; have yq_b1 := y_b.c1; have yq_b2 := y_b.c2
 have y_r := ((x_r.alloc (.cells #[.bool (ngB (alP X e f)), .slice A5 n5 c5] 24)).alloc (.cells #[.bool (ngB (alQ Y e f)), .slice A6 n6 c6] 24)); have yq_r0 := y_r.c0; have yq_r1 := y_r.c1; have yq_r2 := y_r.c2
 go_wp2_with fail
 clear y_a yq_a0 yq_a1 yq_a2 y_b yq_b0 yq_b1 yq_b2 y_r yq_r0 yq_r1 yq_r2
 have l_a_x := x_a.lt
 have l_b_x := x_b.lt
 have l_r_x := x_r.lt
 have e_x : w.heap.size ≤ v2.heap.size := hb.size
 have hb1 := below_alloc2 v2 (.cells #[.bool (ngB (alP X e f)), .slice A5 n5 c5] 24) (.cells #[.bool (ngB (alQ Y e f)), .slice A6 n6 c6] 24)
 have x_x := (Bx.new v2 (ngB (alP X e f)) A5 n5 c5).alloc (.cells #[.bool (ngB (alQ Y e f)), .slice A6 n6 c6] 24)
 have x_y : Bx ((v2.alloc (.cells #[.bool (ngB (alP X e f)), .slice A5 n5 c5] 24)).alloc (.cells #[.bool (ngB (alQ Y e f)), .slice A6 n6 c6] 24)) (v2.heap.size + 1) (ngB (alQ Y e f)) A6 n6 c6 := by have := Bx.new (v2.alloc (.cells #[.bool (ngB (alP X e f)), .slice A5 n5 c5] 24)) (ngB (alQ Y e f)) A6 n6 c6; simpa using this
 obtain ⟨x_a, x_b, x_r, hT, z5, z6⟩ := mv6 hb1 x_a x_b x_r hT z5 z6
 replace hb := bthen hb hb1
 clear hb1
 replace q_a := x_a.al
 replace q_b := x_b.al
 replace q_r := x_r.al
 clear q_a q_b q_r
 generalize (v2.alloc (.cells #[.bool (ngB (alP X e f)), .slice A5 n5 c5] 24)).alloc (.cells #[.bool (ngB (alQ Y e f)), .slice A6 n6 c6] 24) = v3 at *
 have q_a := x_a.al
 have q_b := x_b.al
 have q_r := x_r.al
 have q_x := x_x.al
 have q_y := x_y.al
 skip
 with_reducible refine (ZAdd_any z5.zr z6.zr k (by omega) (by omega) (by omega)).mono ?_
 rintro e v4 ⟨A7, n7, c7, rfl, z7, hb1⟩
 obtain ⟨x_a, x_b, x_r, x_x, x_y, hT, z5, z6⟩ := mv8 hb1 x_a x_b x_r x_x x_y hT z5 z6
 replace hb := bthen hb hb1
 clear hb1
 replace q_a := x_a.al
 replace q_b := x_b.al
 replace q_r := x_r.al
 replace q_x := x_x.al
 replace q_y := x_y.al
 go_wp2_with fail
 with_reducible refine (result_any z7.zr hT (alE e f) (by omega) (k + 1) (by omega) (by omega)).mono ?_
 rintro e v5 ⟨A8, n8, c8, rfl, z8, hb1⟩
 obtain ⟨x_a, x_b, x_r, x_x, x_y, hT, z5, z6, z7⟩ := mv9 hb1 x_a x_b x_r x_x x_y hT z5 z6 z7
 replace hb := bthen hb hb1
 clear hb1
 replace q_a := x_a.al
 replace q_b := x_b.al
 replace q_r := x_r.al
 replace q_x := x_x.al
 replace q_y := x_y.al
 go_wp2
 replace x_a := x_a.asideD (b' := (ngB (od (alP X e f + alQ Y e f)))) (A' := A8) (n' := n8) (c' := c8) (e' := (nE (alP X e f + alQ Y e f) (alE e f))) (g := w.heap.size + 1 + 1) (by omega)
 replace x_b := x_b.asideD (b' := (ngB (od (alP X e f + alQ Y e f)))) (A' := A8) (n' := n8) (c' := c8) (e' := (nE (alP X e f + alQ Y e f) (alE e f))) (g := w.heap.size + 1 + 1) (by omega)
 replace x_x := x_x.asideD (b' := (ngB (od (alP X e f + alQ Y e f)))) (A' := A8) (n' := n8) (c' := c8) (e' := (nE (alP X e f + alQ Y e f) (alE e f))) (g := w.heap.size + 1 + 1) (by omega)
 replace x_y := x_y.asideD (b' := (ngB (od (alP X e f + alQ Y e f)))) (A' := A8) (n' := n8) (c' := c8) (e' := (nE (alP X e f + alQ Y e f) (alE e f))) (g := w.heap.size + 1 + 1) (by omega)
 replace hT := hT.putD (b' := (ngB (od (alP X e f + alQ Y e f)))) (A' := A8) (n' := n8) (c' := c8) (e' := (nE (alP X e f + alQ Y e f) (alE e f))) x_r
 replace z5 := z5.putD (b' := (ngB (od (alP X e f + alQ Y e f)))) (A' := A8) (n' := n8) (c' := c8) (e' := (nE (alP X e f + alQ Y e f) (alE e f))) x_r
 replace z6 := z6.putD (b' := (ngB (od (alP X e f + alQ Y e f)))) (A' := A8) (n' := n8) (c' := c8) (e' := (nE (alP X e f + alQ Y e f) (alE e f))) x_r
 replace z7 := z7.putD (b' := (ngB (od (alP X e f + alQ Y e f)))) (A' := A8) (n' := n8) (c' := c8) (e' := (nE (alP X e f + alQ Y e f) (alE e f))) x_r
 replace z8 := z8.putD (b' := (ngB (od (alP X e f + alQ Y e f)))) (A' := A8) (n' := n8) (c' := c8) (e' := (nE (alP X e f + alQ Y e f) (alE e f))) x_r
 replace hb := put_belowD (g := w.heap.size + 1 + 1) hb (by omega) (.bool (ngB (od (alP X e f + alQ Y e f)))) (.slice A8 n8 c8) (.int .i64 (nE (alP X e f + alQ Y e f) (alE e f)))
 replace x_r := x_r.put (ngB (od (alP X e f + alQ Y e f))) A8 n8 c8 (nE (alP X e f + alQ Y e f) (alE e f))
 clear q_a q_b q_r q_x q_y
 generalize ((v5.setCell ⟨w.heap.size + 1 + 1, 0, none⟩ (.bool (ngB (od (alP X e f + alQ Y e f))))).setCell ⟨w.heap.size + 1 + 1, 1, none⟩ (.slice A8 n8 c8)).setCell ⟨w.heap.size + 1 + 1, 2, none⟩ (.int .i64 (nE (alP X e f + alQ Y e f) (alE e f))) = v6 at *
 have q_a := x_a.al
 have q_b := x_b.al
 have q_r := x_r.al
 have q_x := x_x.al
 have q_y := x_y.al
 refine bodyPost_ret (v := .agg #[.bool (ngB (od (alP X e f + alQ Y e f))), .slice A8 n8 c8, .int .i64 (nE (alP X e f + alQ Y e f) (alE e f))]) (by simp [results, Tryz.results15, go_sem, q_r]) rfl ?_
 exact ⟨_, _, _, rfl, z8, hb⟩
theorem vd_add (X Y e : Int) : vd (X + Y) e = vd X e + vd Y e := by unfold vd; rw [Int.add_mul]
theorem add_vd (he : In e) (hf : In f) : vd (alP X e f + alQ Y e f) (alE e f) = vd X e + vd Y f := by rw [vd_add, alP_vd he hf, alQ_vd he hf]
theorem Bt.add (h : Bt X k) (h2 : Bt Y k) : Bt (X + Y) (k + 1) := by
 unfold Bt at *; rw [Nat.pow_succ]; omega
theorem Bt.odd (h : Bt X k) : Bt (od X) k := Nat.lt_of_le_of_lt (od_abs X) h
theorem nE_le (h : Bt X k) {lo hi : Int} (h0 : lo ≤ e) (h1 : e + k ≤ hi) (h2 : lo ≤ 0) (h3 : 0 ≤ hi) : lo ≤ nE X e ∧ nE X e ≤ hi := by
 unfold nE
 split
 ·omega
 ·have := h.tzlt ‹_›; omega
end Go.Proofs.YtjlbngjeekdfcaaGreatDoor
namespace Go.Proofs.YtjlbngjeekdfcaaGreatDoor.MX
variable {X Y Z e f : Int} {k : Nat}
set_option maxRecDepth 100000
set_option maxHeartbeats 2000000
set_option linter.unusedVariables false
open Rg
theorem exp2_add {y1 y2 y3 : Rat} {K1 K2 K3 : Int} (h1 : 0 ≤ y1) (h2 : 0 ≤ y2) (k1 : -1000 ≤ K1) (k2 : -1000 ≤ K2) (e : (K3 = K1 + K2 ∧ y3 = y1 + y2) ∨ (K3 = K1 + K2 + 1 ∧ y1 + y2 = y3 + 1)) :
  Rr (fun m => p2 K1 * E m (y1 * lam m) * (p2 K2 * E m (y2 * lam m))) (fun m => p2 K3 * E m (y3 * lam m)) := by
 have bl : ∀ y : Rat, Rb (fun m => y * lam m) := fun y => lam_rb.mulc y
 have a := e_add (bl y1) (bl y2)
 have bs := (bl y1).add (bl y2)
 have ea : (fun m => E m (y1 * lam m + y2 * lam m)) = (fun m => E m ((y1 + y2) * lam m)) := funext fun m => by rw [Rat.add_mul]
 rw [ea] at a
 have bp : Rb (fun m => E m (y1 * lam m) * E m (y2 * lam m)) := by
  obtain ⟨A, hA, b1⟩ := (bl y1).E
  obtain ⟨B, hB, b2⟩ := (bl y2).E
  refine ⟨A * B, Rat.mul_nonneg hA hB, fun m => ?_⟩
  have c := b1 m; have d := b2 m
  have g : ab (E m (y1 * lam m) * E m (y2 * lam m)) ≤ A * B := by
   rw [ab_mul]; exact mul_le2 (ab_nn _) hB (ab_le.2 ⟨c.2, by grind⟩) (ab_le.2 ⟨d.2, by grind⟩)
  have := ab_le.1 g
  constructor <;> grind
 have c := a.cmul (p2 (K1 + K2)) bp
 have s : Rr (fun m => p2 K1 * E m (y1 * lam m) * (p2 K2 * E m (y2 * lam m))) (fun m => p2 (K1 + K2) * E m ((y1 + y2) * lam m)) := by
  refine Rr.trans (Rr.of_eq fun m => ?_) c
  rw [← p2_add (j := K1) (k := K2) (by omega) (by omega) (by omega)]
  grind
 refine Rr.trans s ?_
 rcases e with ⟨e1, e2⟩ | ⟨e1, e2⟩
 ·rw [e1, e2]; exact Rr.refl _
 ·have l := (e_lam (bl y3) 1).2
  have el : (fun m => E m (y3 * lam m + ((1 : Nat) : Rat) * lam m)) = (fun m => E m ((y1 + y2) * lam m)) := funext fun m => by
   rw [e2]; exact congrArg (E m) (by have : ((1 : Nat) : Rat) = 1 := rfl
                                     rw [this]; grind)
  rw [el] at l
  have be : Rb (fun m => E m ((y1 + y2) * lam m)) := (bl (y1 + y2)).E
  refine Rr.trans (l.cmul (p2 (K1 + K2)) be) (Rr.of_eq fun m => ?_)
  have p1 := p2_nat 1
  rw [Rat.pow_succ, Rat.pow_zero, Rat.one_mul] at p1 ⊢
  rw [e1, ← p2_add (j := K1 + K2) (k := 1) (by omega) (by omega) (by omega), show p2 1 = 2 from p1]
  grind
end Go.Proofs.YtjlbngjeekdfcaaGreatDoor.MX
namespace Go.Proofs.YtjlbngjeekdfcaaGreatDoor
variable {X Y Z e f : Int} {k : Nat}
set_option maxRecDepth 100000
set_option maxHeartbeats 2000000
set_option linter.unusedVariables false
open Go.RowKit
open MX (bLo bHi tA tZ xK xR xS yR yS uR uS gR gS hR hS wK wR wS vJ vKi vN vLo vHi nq Hd Rb Rr lam al um E p2 sn cs)
theorem Ar.of {E : Int} (hE : -1000 ≤ E ∧ E ≤ 1000) (hb : Bt Z 1500) (h : -64 ≤ nq Z E ∧ nq Z E ≤ 64) : Ar (od Z) (nE Z E) ∧ nq (od Z) (nE Z E) = nq Z E := by
 have e := nq_nf (X := Z) (e := E) (by omega)
 have l := nE_le (e := E) hb (lo := -1000) (hi := 3000) (by omega) (by omega) (by omega) (by omega)
 refine ⟨⟨od_nf, by omega, by omega, ?_⟩, e⟩
 rw [e, c_rat]; push_cast; grind
theorem Bt.si8 (h : Bt Z k) (hk : k ≤ 500 := by omega) : Si Z 8 := by
 unfold Bt at h
 have e : ((2 ^ k : Nat) : Int) = twP k := twN k
 exact si_twL (K := 1) (Q := k) (by omega) (by omega) (by omega) (by omega)
theorem Sl.add (a : Sl X e) (b : Sl Y f) (hX : Si X 3) (hY : Si Y 3) : Ar (od (alP X e f + alQ Y e f)) (nE (alP X e f + alQ Y e f) (alE e f)) ∧ nq (od (alP X e f + alQ Y e f)) (nE (alP X e f + alQ Y e f) (alE e f)) = nq X e + nq Y f ∧ Si (od (alP X e f + alQ Y e f)) 8 := by
 have a1 := a.lo; have a2 := a.hi; have b1 := b.lo; have b2 := b.hi
 have i1 : In e := ⟨by omega, by omega⟩
 have i2 : In f := ⟨by omega, by omega⟩
 have m := al_in i1 i2
 have bt : Bt (alP X e f + alQ Y e f) 321 := ((alP_bt (Bt.of_si hX) i1 i2 (s := 128) (by omega)).mono (by omega)).add ((alQ_bt (Bt.of_si hY) i1 i2 (s := 128) (by omega)).mono (by omega))
 have v : nq (alP X e f + alQ Y e f) (alE e f) = nq X e + nq Y f := by
  unfold nq
  rw [add_vd i1 i2]
  push_cast
  rw [Rat.div_def, Rat.div_def, Rat.div_def]; grind
 have c := a.b; have d := b.b
 obtain ⟨r, s⟩ := Ar.of (Z := alP X e f + alQ Y e f) (E := alE e f) (by omega) (bt.mono (by omega)) (by rw [v]; grind)
 exact ⟨r, by rw [s, v], bt.odd.si8⟩
end Go.Proofs.YtjlbngjeekdfcaaGreatDoor
namespace Go.Proofs.YtjlbngjeekdfcaaGreatDoor
variable {X Y e f : Int}
set_option linter.unusedVariables false
open Go.RowKit
open MX (bLo bHi tA tZ xK xR xS yR yS uR uS gR gS hR hS wK wR wS vJ vKi vN vLo vHi nq Hd Rb Rr lam al um E p2 sn cs)
theorem nq_lt (h : ¬ vd Y f ≤ vd X e) : nq X e < nq Y f := by
 rcases (show nq X e < nq Y f ∨ nq Y f ≤ nq X e by grind) with g | g
 ·exact g
 ·exact absurd (MX.nq_le.1 g) h
theorem fl0_lt (he : -4000 ≤ e) : ((flI X e : Int) : Rat) ≤ nq X e ∧ nq X e < ((flI X e + 1 : Int) : Rat) := by
 have a := (fl0_nq (X := X) (e := e) he).1
 have b := le_flI (Z := flI X e + 1) (X := X) (e := e) (q := 0) he (by omega)
 rw [Int.add_zero] at b
 have c := nq_lt (mt b.2 (by omega))
 rw [show -(0 : Int) = 0 by rfl, c_rat] at c
 rw [c_rat] at a
 exact ⟨a, c⟩
theorem adds_rr {i S g : Int} (hi : i = 0 ∨ i = 1) (a : Ar X e) (b : Ar Y f) (s : Ar S g) (h : nq S g = nq X e + nq Y f) : Rb (Vf i X e) ∧ Rr (fun m => Vf i X e m * Vf i Y f m) (Vf i S g) := by
 have he : -4000 ≤ e := by have := a.lo; omega
 have hf : -4000 ≤ f := by have := b.lo; omega
 have hg : -4000 ≤ g := by have := s.lo; omega
 rcases hi with rfl | rfl
 ·refine ⟨(Rb.const (nq X e)).E, ?_⟩
  have r := MX.e_add (Rb.const (nq X e)) (Rb.const (nq Y f))
  have ev : Vf 0 S g = fun m => E m (nq X e + nq Y f) := funext fun m => by show E m (nq S g) = _; rw [h]
  rw [ev]; exact r
 ·refine ⟨((MX.lam_rb.mulc (nq X e - flI X e)).E).mulc (p2 (flI X e)), ?_⟩
  have f1 := fl0_lt (X := X) he
  have f2 := fl0_lt (X := Y) hf
  have f3 := fl0_lt (X := S) hg
  have k1 := a.fl
  have k2 := b.fl
  have c1 : flI X e + flI Y f < flI S g + 1 := Rat.intCast_lt_intCast.1 (by push_cast; push_cast at f3; grind)
  have c2 : flI S g < flI X e + flI Y f + 2 := Rat.intCast_lt_intCast.1 (by push_cast; push_cast at f1 f2; grind)
  exact MX.exp2_add (by grind) (by grind) (by omega) (by omega) (by
   rcases (show flI S g = flI X e + flI Y f ∨ flI S g = flI X e + flI Y f + 1 by omega) with k | k
   ·left; refine ⟨k, ?_⟩; rw [h, k]; push_cast; grind
   ·right; refine ⟨k, ?_⟩; rw [h, k]; push_cast; grind)
theorem i64_and63 (n : Int) : bits .and .i64 n 63 = n % 64 := by
 have h127 : (BitVec.ofInt 64 63).toNat = 2 ^ 6 - 1 := by decide
 have key : (BitVec.ofInt 64 n &&& BitVec.ofInt 64 63).toNat = (n % ((2 ^ 64 : Nat) : Int)).toNat % 2 ^ 6 := by
  rw [BitVec.toNat_and, BitVec.toNat_ofInt, h127, Nat.and_two_pow_sub_one_eq_mod]
 show IntKind.i64.wrap ((BitVec.ofInt 64 n &&& BitVec.ofInt 64 63).toNat : Nat) = n % 64
 rw [key, IntKind.wrap_i64]
 omega
theorem masked63 (n : Int) (d : Int) (hd : 0 ≤ d ∧ d ≤ 1000) : ∃ s : Int, bits .and .i64 n 63 = s ∧ ∃ Q : Nat, IntKind.i64.wrap (d + s) = (Q : Int) ∧ d ≤ Q ∧ Q ≤ d + 63 ∧ s = Q - d := by
 refine ⟨n % 64, i64_and63 n, (d + n % 64).toNat, ?_, ?_, ?_, ?_⟩ <;> first | (rw [wrapK (by omega) (by omega)]; omega) | omega
end Go.Proofs.YtjlbngjeekdfcaaGreatDoor
