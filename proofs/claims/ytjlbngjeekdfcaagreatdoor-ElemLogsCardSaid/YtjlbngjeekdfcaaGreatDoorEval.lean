/-
 the laws of elem: what the values have to do with each other.
-/
import Derived.Test.YtjlbngjeekdfcaaGreatDoorEsmall
import Derived.Test.YtjlbngjeekdfcaaGreatDoorEnum6
import Derived.Laws.BitsAllLaws
namespace Go.Proofs.YtjlbngjeekdfcaaGreatDoor
variable {X : Int}
set_option linter.unusedVariables false
open Go.RowKit
open MX (bLo bHi tA tZ xK xR xS yR yS uR uS gR gS hR hS wK wR wS vJ vKi vN vLo vHi nq Hd Rb Rr lam al um E p2 sn cs)
def Vf (i X e : Int) (m : Nat) : Rat :=
 if i = 0 then E m (nq X e)
 else if i = 1 then p2 (flI X e) * E m ((nq X e - flI X e) * lam m)
 else if i = 2 then al m (um (nq X (e - lgI X e))) + lgI X e * lam m
 else if i = 3 then al m (um (nq X (e - lgI X e))) / lam m + lgI X e
 else if i = 4 then sn m (nq X e)
 else cs m (nq X e)
structure Fx (i X e : Int) (q : Nat) (P R : Int) : Prop where
 hd : Hd P R q (Vf i X e)
 wv : i = 4 ∨ i = 5 → -(twP q + 2) ≤ P ∧ R ≤ twP q + 2
 lg : i = 2 → Sl X e → q ≤ 127 → -(64 * twP q) ≤ P ∧ R ≤ 64 * twP q
def OuV (w : World) (q : Int) (F : Int → Int → Prop) (e : Ending) (w' : World) : Prop := ∃ X Y A n c A2 n2 c2, e = .returned (.tuple #[.agg #[.bool (ngB X), .slice A n c, .bool (ngB Y), .slice A2 n2 c2, .int .i64 q], .bool true]) ∧ Zn w' A n c X 140 ∧ Zn w' A2 n2 c2 Y 140 ∧ X ≤ Y ∧ F X Y ∧ Below w.heap.size w w'
theorem OuT.v {w w' : World} {Y q : Int} {F : Int → Int → Prop} {e : Ending} (h : OuT w X Y q e w') (hl : X ≤ Y) (hF : F X Y) : OuV w q F e w' := by
 obtain ⟨A, n, c, A2, n2, c2, he, z, z2, hb⟩ := h
 exact ⟨X, Y, A, n, c, A2, n2, c2, he, z, z2, hl, hF, hb⟩
theorem fl0 (X : Int) : flI X 0 = X := by unfold flI; rw [if_neg (by omega)]; simp
theorem fl00 {P R : Int} {q : Nat} {V : Nat → Rat} (h : Hd (rcL P q) (rcH R q) q V) : Hd (flI (rcL P q) 0) (-flI (-rcH R q) 0) q V := by
 rw [fl0, fl0, Int.neg_neg]; exact h
theorem nq_ab {e : Int} : (if decide (X < 0) = true then -nq (X.natAbs : Int) e else nq (X.natAbs : Int) e) = nq X e := by
 rcases (show X < 0 ∨ ¬ X < 0 by omega) with h | h
 ·rw [if_pos (by simpa using h), show (X.natAbs : Int) = -X by omega, MX.nq_neg]; grind
 ·rw [if_neg (by simpa using h), show (X.natAbs : Int) = X by omega]
section
variable {b : Bool} {A : Option Addr} {n c : Nat} {X e : Int} {w : World}
theorem Fat {i : Int} (hi : 0 ≤ i ∧ i ≤ 5) (h : Zr w b A n c X 8) (hT : Tab w) (a : Ar X e) {q : Nat} (hq : q < 216) (hp : i = 2 ∨ i = 3 → 0 < X ∧ -100 ≤ lgI X e) : Calls Tryz.prog 12 #[.int .i64 i, .agg #[.bool b, .slice A n c, .int .i64 e], .int .i64 (q : Nat)] w (OuV w q (Fx i X e q)) := by
 have HW : 40 ≤ q + 40 ∧ q + 40 < 256 := by omega
 have hE : -4000 ≤ e := by have := a.lo; omega
 have hX : Si X 8 := h.si
 have l6 := a.lg.1
 rcases (show i = 0 ∨ i = 1 ∨ i = 2 ∨ i = 3 ∨ i = 4 ∨ i = 5 by omega) with rfl | rfl | rfl | rfl | rfl | rfl
 ·have en := exp_en a HW
  have hd := MX.exp_hd hq hE a.b ((q + 40) / 4 + 10) (by omega)
  have x := MX.xR_ok HW hE a.b
  exact (Eat_of (by omega) (fun w hT h => EAt0 h hT a hq) h hT (rc_le en.le) ⟨by omega, by omega⟩).mono fun e w' he => he.v hd.le ⟨hd, fun k => by omega, fun k => by omega⟩
 ·have en := exp2_en a hX HW
  have r2 := a.r2 hX (by omega)
  have fl := a.fl
  have hd := MX.exp2_hd (K := flI X e) hq r2.1.1 (by omega) r2.2.2 ((q + 40) / 4 + 10) (by omega)
  rw [r2.2.1] at hd
  exact (Eat_of (by omega) (fun w hT h => EAt1 h hT a hq) h hT (rc_le en.le) ⟨by omega, by omega⟩).mono fun e w' he => he.v hd.le ⟨hd, fun k => by omega, fun k => by omega⟩
 ·obtain ⟨h0, hl⟩ := hp (Or.inl rfl)
  have s := a.sh h0 hl
  have en := log_en a h0 hl HW
  have hd := fl00 (MX.log_hd (ℓ := lgI X e) (q := q) (by omega) s.2.1.1 s.2.2 ((q + 40) / 3 + 2))
  refine (Eat_of (by omega) (fun w hT h => EAt2 h hT a hq h0 hl) h hT (rc_le en.le) ⟨by omega, by omega⟩).mono fun e w' he => he.v hd.le ⟨hd, fun k => by omega, fun _ sl h7 => ?_⟩
  have g := log_64 sl h0 h7
  have l := en.le
  rw [fl0, fl0, Int.neg_neg]
  exact ⟨(rc_bd64 ⟨g.1, by omega⟩).1.1, (rc_bd64 ⟨by omega, g.2⟩).2.2⟩
 ·obtain ⟨h0, hl⟩ := hp (Or.inr rfl)
  have s := a.sh h0 hl
  have en := log2_en a h0 hl HW
  have hd := fl00 (MX.log2_hd (ℓ := lgI X e) hq s.2.1.1 s.2.2 ((q + 40) / 3 + 2))
  exact (Eat_of (by omega) (fun w hT h => EAt3 h hT a hq h0 hl) h hT (rc_le en.le) ⟨by omega, by omega⟩).mono fun e w' he => he.v hd.le ⟨hd, fun k => by omega, fun k => by omega⟩
 all_goals
  have hn : 0 ≤ nq (X.natAbs : Int) e ∧ nq (X.natAbs : Int) e ≤ nq 64 0 := by
   refine ⟨nq_nn (by omega), ?_⟩
   rcases (show (X.natAbs : Int) = X ∨ (X.natAbs : Int) = -X by omega) with g | g
   ·rw [g]; exact a.b.2
   ·rw [g]; exact a.neg.b.2
 ·have en := wave_en (co := false) (neg := decide (X < 0)) a HW
  have hd := MX.wave_hd (c := false) (neg := decide (X < 0)) hq hE hn ((q + 40) / 8 + 6) (by omega)
  have bd := MX.v_bd (c := false) (neg := decide (X < 0)) HW hE hn (n := (q + 40) / 8 + 6) (by omega)
  have hv : Hd (flI (rcL (vLo false (decide (X < 0)) (X.natAbs : Int) e (q + 40) ((q + 40) / 8 + 6)) q) 0) (-flI (-rcH (vHi false (decide (X < 0)) (X.natAbs : Int) e (q + 40) ((q + 40) / 8 + 6)) q) 0) q (Vf 4 X e) := by
   refine fl00 ?_
   have ev : (fun m => if false = true then cs m (if decide (X < 0) = true then -nq (X.natAbs : Int) e else nq (X.natAbs : Int) e) else sn m (if decide (X < 0) = true then -nq (X.natAbs : Int) e else nq (X.natAbs : Int) e)) = Vf 4 X e := funext fun m => by rw [nq_ab]; rfl
   rw [← ev]; exact hd
  refine (Eat_of (by omega) (fun w hT h => EAt4 h hT a hq) h hT (rc_le en.le) ⟨by omega, by omega⟩).mono fun e w' he => he.v hv.le ⟨hv, fun _ => ?_, fun k => by omega⟩
  rw [fl0, fl0, Int.neg_neg]
  exact ⟨MX.recast_bd2 bd.2 (by omega), MX.recast_bd bd.1 (by omega)⟩
 ·have en := wave_en (co := true) (neg := decide (X < 0)) a HW
  have hd := MX.wave_hd (c := true) (neg := decide (X < 0)) hq hE hn ((q + 40) / 8 + 6) (by omega)
  have bd := MX.v_bd (c := true) (neg := decide (X < 0)) HW hE hn (n := (q + 40) / 8 + 6) (by omega)
  have hv : Hd (flI (rcL (vLo true (decide (X < 0)) (X.natAbs : Int) e (q + 40) ((q + 40) / 8 + 6)) q) 0) (-flI (-rcH (vHi true (decide (X < 0)) (X.natAbs : Int) e (q + 40) ((q + 40) / 8 + 6)) q) 0) q (Vf 5 X e) := by
   refine fl00 ?_
   have ev : (fun m => if true = true then cs m (if decide (X < 0) = true then -nq (X.natAbs : Int) e else nq (X.natAbs : Int) e) else sn m (if decide (X < 0) = true then -nq (X.natAbs : Int) e else nq (X.natAbs : Int) e)) = Vf 5 X e := funext fun m => by rw [nq_ab]; rfl
   rw [← ev]; exact hd
  refine (Eat_of (by omega) (fun w hT h => EAt5 h hT a hq) h hT (rc_le en.le) ⟨by omega, by omega⟩).mono fun e w' he => he.v hv.le ⟨hv, fun _ => ?_, fun k => by omega⟩
  rw [fl0, fl0, Int.neg_neg]
  exact ⟨MX.recast_bd2 bd.2 (by omega), MX.recast_bd bd.1 (by omega)⟩
end
end Go.Proofs.YtjlbngjeekdfcaaGreatDoor
namespace Go.Proofs.YtjlbngjeekdfcaaGreatDoor
variable {X Y Z e f : Int} {k : Nat}
set_option maxRecDepth 100000
set_option maxHeartbeats 4000000
set_option linter.unusedVariables false
open Go.RowKit
theorem DMul_any {b b2 : Bool} {A A2 : Option Addr} {n c n2 c2 : Nat} {j j2 : Nat} {w : World} (h : Zr w b A n c X j) (h2 : Zr w b2 A2 n2 c2 Y j2) (hT : Tab w) (k : Nat) (hk : j + j2 ≤ k) (hj : k ≤ 100000) :
  Calls Tryz.prog 17 #[.agg #[.bool b, .slice A n c, .int .i64 e], .agg #[.bool b2, .slice A2 n2 c2, .int .i64 f]] w (OutD w (od (cM X e * cM Y f)) (nE (cM X e * cM Y f) (cE e + cE f)) (k + 1)) := by
 have hc := cE_in e
 have hc2 := cE_in f
 have hwr : IntKind.i64.wrap (cE e + cE f) = cE e + cE f := IntWalk.i64_in _ ⟨by omega, by omega⟩
 go_enter Tryz.func17, Tryz.ntmps17
 go_wp2_with fail
 have x_a : Dx (w.alloc (.cells #[.bool b, .slice A n c, .int .i64 e] 26)) (w.heap.size) b A n c e := by have := Dx.new w b A n c e; simpa using this
 replace x_a := x_a.alloc (.cells #[.bool b2, .slice A2 n2 c2, .int .i64 f] 26)
 have x_b : Dx ((w.alloc (.cells #[.bool b, .slice A n c, .int .i64 e] 26)).alloc (.cells #[.bool b2, .slice A2 n2 c2, .int .i64 f] 26)) (w.heap.size + 1) b2 A2 n2 c2 f := by have := Dx.new (w.alloc (.cells #[.bool b, .slice A n c, .int .i64 e] 26)) b2 A2 n2 c2 f; simpa using this
 replace x_a := x_a.alloc (.cells #[.bool false, .slice none 0 0, .int .i64 0] 26)
 replace x_b := x_b.alloc (.cells #[.bool false, .slice none 0 0, .int .i64 0] 26)
 have x_r : Dx (((w.alloc (.cells #[.bool b, .slice A n c, .int .i64 e] 26)).alloc (.cells #[.bool b2, .slice A2 n2 c2, .int .i64 f] 26)).alloc (.cells #[.bool false, .slice none 0 0, .int .i64 0] 26)) (w.heap.size + 1 + 1) false none 0 0 0 := by have := Dx.new ((w.alloc (.cells #[.bool b, .slice A n c, .int .i64 e] 26)).alloc (.cells #[.bool b2, .slice A2 n2 c2, .int .i64 f] 26)) false none 0 0 0; simpa using this
 have hb : Below w.heap.size w (((w.alloc (.cells #[.bool b, .slice A n c, .int .i64 e] 26)).alloc (.cells #[.bool b2, .slice A2 n2 c2, .int .i64 f] 26)).alloc (.cells #[.bool false, .slice none 0 0, .int .i64 0] 26)) := (Below.alloc (Below.alloc (Below.alloc (Below.refl w.heap.size w) (by simp) (.cells #[.bool b, .slice A n c, .int .i64 e] 26)) (by simp) (.cells #[.bool b2, .slice A2 n2 c2, .int .i64 f] 26)) (by simp; omega) (.cells #[.bool false, .slice none 0 0, .int .i64 0] 26))
 generalize ((w.alloc (.cells #[.bool b, .slice A n c, .int .i64 e] 26)).alloc (.cells #[.bool b2, .slice A2 n2 c2, .int .i64 f] 26)).alloc (.cells #[.bool false, .slice none 0 0, .int .i64 0] 26) = v1 at *
 obtain ⟨h, h2, hT⟩ := mv3 hb h h2 hT
 have q_a := x_a.al
 have q_b := x_b.al
 have q_r := x_r.al
 go_wp2_with fail
 go_region_with ((first | (go_at_call 34; (with_reducible refine (read_any h.drw).mono ?_); rintro e v2 ⟨b1, A1, n1, c1, rfl, zc, hb1⟩; replace hb1 := undrew hb1; obtain ⟨x_a, x_b, x_r, h, h2, hT⟩ := mv6 hb1 x_a x_b x_r h h2 hT; replace hb := bthen hb hb1; clear hb1; replace q_a := x_a.al; replace q_b := x_b.al; replace q_r := x_r.al) | (go_at_call 34; (with_reducible refine (read_any h2).mono ?_); rintro e v3 ⟨b3, A3, n3, c3, rfl, zd, hb1⟩; obtain ⟨x_a, x_b, x_r, h, h2, hT, zc⟩ := mv7 hb1 x_a x_b x_r h h2 hT zc; replace hb := bthen hb hb1; clear hb1; replace q_a := x_a.al; replace q_b := x_b.al; replace q_r := x_r.al)))
 all_goals
  skip
  replace x_b := x_b.asideD (b' := b1) (A' := A1) (n' := n1) (c' := c1) (e' := (cE e)) (g := w.heap.size) (by omega)
  replace x_r := x_r.asideD (b' := b1) (A' := A1) (n' := n1) (c' := c1) (e' := (cE e)) (g := w.heap.size) (by omega)
  replace h := h.putD (b' := b1) (A' := A1) (n' := n1) (c' := c1) (e' := (cE e)) x_a
  replace h2 := h2.putD (b' := b1) (A' := A1) (n' := n1) (c' := c1) (e' := (cE e)) x_a
  replace hT := hT.putD (b' := b1) (A' := A1) (n' := n1) (c' := c1) (e' := (cE e)) x_a
  replace zc := zc.putD (b' := b1) (A' := A1) (n' := n1) (c' := c1) (e' := (cE e)) x_a
  replace zd := zd.putD (b' := b1) (A' := A1) (n' := n1) (c' := c1) (e' := (cE e)) x_a
  replace hb := put_belowD (g := w.heap.size) hb (by omega) (.bool b1) (.slice A1 n1 c1) (.int .i64 (cE e))
  replace x_a := x_a.put b1 A1 n1 c1 (cE e)
  clear q_a q_b q_r
  generalize ((v3.setCell ⟨w.heap.size, 0, none⟩ (.bool b1)).setCell ⟨w.heap.size, 1, none⟩ (.slice A1 n1 c1)).setCell ⟨w.heap.size, 2, none⟩ (.int .i64 (cE e)) = v4 at *
  have q_a := x_a.al
  have q_b := x_b.al
  have q_r := x_r.al
  replace x_a := x_a.asideD (b' := b3) (A' := A3) (n' := n3) (c' := c3) (e' := (cE f)) (g := w.heap.size + 1) (by omega)
  replace x_r := x_r.asideD (b' := b3) (A' := A3) (n' := n3) (c' := c3) (e' := (cE f)) (g := w.heap.size + 1) (by omega)
  replace h := h.putD (b' := b3) (A' := A3) (n' := n3) (c' := c3) (e' := (cE f)) x_b
  replace h2 := h2.putD (b' := b3) (A' := A3) (n' := n3) (c' := c3) (e' := (cE f)) x_b
  replace hT := hT.putD (b' := b3) (A' := A3) (n' := n3) (c' := c3) (e' := (cE f)) x_b
  replace zc := zc.putD (b' := b3) (A' := A3) (n' := n3) (c' := c3) (e' := (cE f)) x_b
  replace zd := zd.putD (b' := b3) (A' := A3) (n' := n3) (c' := c3) (e' := (cE f)) x_b
  replace hb := put_belowD (g := w.heap.size + 1) hb (by omega) (.bool b3) (.slice A3 n3 c3) (.int .i64 (cE f))
  replace x_b := x_b.put b3 A3 n3 c3 (cE f)
  clear q_a q_b q_r
  generalize ((v4.setCell ⟨w.heap.size + 1, 0, none⟩ (.bool b3)).setCell ⟨w.heap.size + 1, 1, none⟩ (.slice A3 n3 c3)).setCell ⟨w.heap.size + 1, 2, none⟩ (.int .i64 (cE f)) = v5 at *
  have q_a := x_a.al
  have q_b := x_b.al
  have q_r := x_r.al
  clear h h2
  go_wp2_with fail
  go_region_held3 (fun w' => w'.cell? ⟨w.heap.size, 0, none⟩ = some (.bool b1) ∧ w'.cell? ⟨w.heap.size, 1, none⟩ = some (.slice A1 n1 c1) ∧ w'.cell? ⟨w.heap.size, 2, none⟩ = some (.int .i64 (cE e)) ∧ w'.cell? ⟨w.heap.size + 1, 0, none⟩ = some (.bool b3) ∧ w'.cell? ⟨w.heap.size + 1, 1, none⟩ = some (.slice A3 n3 c3) ∧ w'.cell? ⟨w.heap.size + 1, 2, none⟩ = some (.int .i64 (cE f)))
   (first | (with_reducible exact ⟨x_a.c0, x_a.c1, x_a.c2, x_b.c0, x_b.c1, x_b.c2⟩) | (with_reducible exact ⟨(x_a.aside (by omega)).c0, (x_a.aside (by omega)).c1, (x_a.aside (by omega)).c2, (x_b.aside (by omega)).c0, (x_b.aside (by omega)).c1, (x_b.aside (by omega)).c2⟩) | (with_reducible exact ⟨((x_a.aside (by omega)).aside (by omega)).c0, ((x_a.aside (by omega)).aside (by omega)).c1, ((x_a.aside (by omega)).aside (by omega)).c2, ((x_b.aside (by omega)).aside (by omega)).c0, ((x_b.aside (by omega)).aside (by omega)).c1, ((x_b.aside (by omega)).aside (by omega)).c2⟩) | (with_reducible exact ⟨(x_a.asideD (by omega)).c0, (x_a.asideD (by omega)).c1, (x_a.asideD (by omega)).c2, (x_b.asideD (by omega)).c0, (x_b.asideD (by omega)).c1, (x_b.asideD (by omega)).c2⟩) | (with_reducible exact ⟨((x_a.asideD (by omega)).asideD (by omega)).c0, ((x_a.asideD (by omega)).asideD (by omega)).c1, ((x_a.asideD (by omega)).asideD (by omega)).c2, ((x_b.asideD (by omega)).asideD (by omega)).c0, ((x_b.asideD (by omega)).asideD (by omega)).c1, ((x_b.asideD (by omega)).asideD (by omega)).c2⟩) | go_keep)
   (first | (go_at_call 45; (with_reducible refine (ZMul_any zc.drw zd.drw k hk (by omega)).mono ?_); rintro e v6 ⟨A7, n7, c7, rfl, z7, hb1⟩; replace hb1 := undrew hb1; obtain ⟨x_a, x_b, x_r, hT, zc, zd⟩ := mv6 hb1 x_a x_b x_r hT zc zd; replace hb := bthen hb hb1; clear hb1; replace q_a := x_a.al; replace q_b := x_b.al; replace q_r := x_r.al) | (go_at_call 35; (with_reducible refine (result_any z7.zr hT (cE e + cE f) (by omega) (k + 1) (by omega) (by omega)).mono ?_); rintro e v7 ⟨A8, n8, c8, rfl, z8, hb1⟩; obtain ⟨x_a, x_b, x_r, hT, zc, zd, z7⟩ := mv7 hb1 x_a x_b x_r hT zc zd z7; replace hb := bthen hb hb1; clear hb1; replace q_a := x_a.al; replace q_b := x_b.al; replace q_r := x_r.al))
  go_wp2
  replace x_a := x_a.asideD (b' := (ngB (od (cM X e * cM Y f)))) (A' := A8) (n' := n8) (c' := c8) (e' := (nE (cM X e * cM Y f) (cE e + cE f))) (g := w.heap.size + 1 + 1) (by omega)
  replace x_b := x_b.asideD (b' := (ngB (od (cM X e * cM Y f)))) (A' := A8) (n' := n8) (c' := c8) (e' := (nE (cM X e * cM Y f) (cE e + cE f))) (g := w.heap.size + 1 + 1) (by omega)
  replace hT := hT.putD (b' := (ngB (od (cM X e * cM Y f)))) (A' := A8) (n' := n8) (c' := c8) (e' := (nE (cM X e * cM Y f) (cE e + cE f))) x_r
  replace zc := zc.putD (b' := (ngB (od (cM X e * cM Y f)))) (A' := A8) (n' := n8) (c' := c8) (e' := (nE (cM X e * cM Y f) (cE e + cE f))) x_r
  replace zd := zd.putD (b' := (ngB (od (cM X e * cM Y f)))) (A' := A8) (n' := n8) (c' := c8) (e' := (nE (cM X e * cM Y f) (cE e + cE f))) x_r
  replace z7 := z7.putD (b' := (ngB (od (cM X e * cM Y f)))) (A' := A8) (n' := n8) (c' := c8) (e' := (nE (cM X e * cM Y f) (cE e + cE f))) x_r
  replace z8 := z8.putD (b' := (ngB (od (cM X e * cM Y f)))) (A' := A8) (n' := n8) (c' := c8) (e' := (nE (cM X e * cM Y f) (cE e + cE f))) x_r
  replace hb := put_belowD (g := w.heap.size + 1 + 1) hb (by omega) (.bool (ngB (od (cM X e * cM Y f)))) (.slice A8 n8 c8) (.int .i64 (nE (cM X e * cM Y f) (cE e + cE f)))
  replace x_r := x_r.put (ngB (od (cM X e * cM Y f))) A8 n8 c8 (nE (cM X e * cM Y f) (cE e + cE f))
  clear q_a q_b q_r
  generalize ((v7.setCell ⟨w.heap.size + 1 + 1, 0, none⟩ (.bool (ngB (od (cM X e * cM Y f))))).setCell ⟨w.heap.size + 1 + 1, 1, none⟩ (.slice A8 n8 c8)).setCell ⟨w.heap.size + 1 + 1, 2, none⟩ (.int .i64 (nE (cM X e * cM Y f) (cE e + cE f))) = v8 at *
  have q_a := x_a.al
  have q_b := x_b.al
  have q_r := x_r.al
  refine bodyPost_ret (v := .agg #[.bool (ngB (od (cM X e * cM Y f))), .slice A8 n8 c8, .int .i64 (nE (cM X e * cM Y f) (cE e + cE f))]) (by simp [results, Tryz.results17, go_sem, q_r]) rfl ?_
  exact ⟨_, _, _, rfl, z8, hb⟩
theorem Bt.mul {l : Nat} (h : Bt X k) (h2 : Bt Y l) : Bt (X * Y) (k + l) := by
 unfold Bt at *; rw [Int.natAbs_mul, Nat.pow_add]; exact Nat.mul_lt_mul'' h h2
theorem Bt.odd (h : Bt X k) : Bt (od X) k := Nat.lt_of_le_of_lt (od_abs X) h
theorem nE_le (h : Bt X k) {lo hi : Int} (h0 : lo ≤ e) (h1 : e + k ≤ hi) (h2 : lo ≤ 0) (h3 : 0 ≤ hi) : lo ≤ nE X e ∧ nE X e ≤ hi := by
 unfold nE
 split
 ·omega
 ·have := h.tzlt ‹_›; omega
open MX (bLo bHi tA tZ xK xR xS yR yS uR uS gR gS hR hS wK wR wS vJ vKi vN vLo vHi nq Hd Rb Rr lam al um E p2 sn cs)
theorem Ar.of {E : Int} (hE : -1000 ≤ E ∧ E ≤ 1000) (hb : Bt Z 1500) (h : -64 ≤ nq Z E ∧ nq Z E ≤ 64) : Ar (od Z) (nE Z E) ∧ nq (od Z) (nE Z E) = nq Z E := by
 have e := nq_nf (X := Z) (e := E) (by omega)
 have l := nE_le (e := E) hb (lo := -1000) (hi := 3000) (by omega) (by omega) (by omega) (by omega)
 refine ⟨⟨od_nf, by omega, by omega, ?_⟩, e⟩
 rw [e, c_rat]; push_cast; grind
theorem Bt.si8 (h : Bt Z k) (hk : k ≤ 500 := by omega) : Si Z 8 := by
 unfold Bt at h
 have e : ((2 ^ k : Nat) : Int) = twP k := twN k
 exact si_twL (K := 1) (Q := k) (by omega) (by omega) (by omega) (by omega)
theorem pos_of (h : 0 < nq X e) : 0 < X := by
 rcases (show 0 < X ∨ X ≤ 0 by omega) with g | g
 ·exact g
 ·have := nq_nn (X := -X) (e := e) (by omega)
  rw [MX.nq_neg] at this
  grind
theorem mul_in {x y : Rat} (hx : 4 ≤ x ∧ x ≤ 8) (hy : 4 ≤ y ∧ y ≤ 8) : 16 ≤ x * y ∧ x * y ≤ 64 := by
 have h1 := Rat.mul_le_mul_of_nonneg_left hy.1 (show (0 : Rat) ≤ x by grind)
 have h2 := Rat.mul_le_mul_of_nonneg_left hy.2 (show (0 : Rat) ≤ x by grind)
 constructor <;> grind
theorem Sl.mul (a : Sl X e) (b : Sl Y f) (hX : Si X 3) (hY : Si Y 3) (h0 : 0 < X) (k0 : 0 < Y) : Ar (od (cM X e * cM Y f)) (nE (cM X e * cM Y f) (cE e + cE f)) ∧ nq (od (cM X e * cM Y f)) (nE (cM X e * cM Y f) (cE e + cE f)) = nq X e * nq Y f ∧ Si (od (cM X e * cM Y f)) 8 ∧ 0 < od (cM X e * cM Y f) := by
 have a1 := a.lo; have a2 := a.hi; have b1 := b.lo; have b2 := b.hi
 obtain ⟨c1, c2⟩ := c_yes (X := X) (e := e) (by omega)
 obtain ⟨d1, d2⟩ := c_yes (X := Y) (e := f) (by omega)
 rw [c1, c2, d1, d2]
 have bt : Bt (X * Y) 384 := (Bt.of_si hX).mul (Bt.of_si hY)
 have v : nq (X * Y) (e + f) = nq X e * nq Y f := (MX.nq_mul (by omega) (by omega) (by omega)).symm
 have c := a.b; have d := b.b
 have m := mul_in ⟨a.pos h0, a.b.2⟩ ⟨b.pos k0, b.b.2⟩
 obtain ⟨r, s⟩ := Ar.of (Z := X * Y) (E := e + f) (by omega) (bt.mono (by omega)) (by rw [v]; grind)
 exact ⟨r, by rw [s, v], bt.odd.si8, pos_of (by rw [s, v]; grind)⟩
end Go.Proofs.YtjlbngjeekdfcaaGreatDoor
namespace Go.Proofs.YtjlbngjeekdfcaaGreatDoor
variable {X Y e f : Int}
set_option linter.unusedVariables false
open Go.RowKit
open MX (bLo bHi tA tZ xK xR xS yR yS uR uS gR gS hR hS wK wR wS vJ vKi vN vLo vHi nq Hd Rb Rr lam al um E p2 sn cs)
theorem vd1_le {a b : Int} (h : a ≤ b) : vd 1 a ≤ vd 1 b := by
 have l : (a + 4000).toNat ≤ (b + 4000).toNat := by omega
 unfold vd
 generalize (a + 4000).toNat = s at *
 generalize (b + 4000).toNat = r at *
 have := Nat.pow_le_pow_right (n := 2) (by omega) l
 rw [Int.one_mul, Int.one_mul]
 exact_mod_cast this
theorem nq_lt (h : ¬ vd Y f ≤ vd X e) : nq X e < nq Y f := by
 rcases (show nq X e < nq Y f ∨ nq Y f ≤ nq X e by grind) with g | g
 ·exact g
 ·exact absurd (MX.nq_le.1 g) h
theorem can {a b c : Rat} (h : 0 < c) (e : a * c = b * c) : a = b := by
 have hi : c⁻¹ * c = 1 := Rat.inv_mul_cancel c (by intro h0; rw [h0] at h; exact absurd h (by decide))
 generalize c⁻¹ = i at hi
 have e2 : a * c * i = b * c * i := by rw [e]
 grind
theorem logs_rr {i S g : Int} (hi : i = 2 ∨ i = 3) (a : Sl X e) (b : Sl Y f) (s : Ar S g) (h0 : 0 < X) (k0 : 0 < Y) (s0 : 0 < S) (h : nq S g = nq X e * nq Y f) : Rr (fun m => Vf i X e m + Vf i Y f m) (Vf i S g) := by
 have a1 := a.lo; have a2 := a.hi; have b1 := b.lo; have b2 := b.hi; have s1 := s.lo; have s2 := s.hi
 have l1 := lg_3 a h0
 have l2 := lg_3 b k0
 have m := mul_in ⟨a.pos h0, a.b.2⟩ ⟨b.pos k0, b.b.2⟩
 have l3 := lg_nn s (by rw [h]; grind) s0
 have l6 := s.lg.1
 have e1 := (a.ar.sh h0 (by omega)).2
 have e2 := (b.ar.sh k0 (by omega)).2
 have e3 := (s.sh s0 (by omega)).2
 have p1 := MX.nq_p2 X (e := e - lgI X e) (k := lgI X e) (by omega) (by omega) (by omega)
 have p3 := MX.nq_p2 S (e := g - lgI S g) (k := lgI S g) (by omega) (by omega) (by omega)
 have p4 := MX.nq_p2 Y (e := f - lgI Y f) (k := lgI Y f) (by omega) (by omega) (by omega)
 rw [show e - lgI X e + lgI X e = e by omega] at p1
 rw [show g - lgI S g + lgI S g = g by omega] at p3
 rw [show f - lgI Y f + lgI Y f = f by omega] at p4
 have up : nq S g < p2 (lgI S g + 1) := nq_lt (by
  have p := bl_pos (N := S.natAbs) (by omega)
  have eL : lgI S g = g + bl S.natAbs - 1 := by unfold lgI; rw [if_neg (by omega)]
  have v := (lg_vd (X := S) (e := g) s0 ⟨by omega, s.hi⟩ (by omega)).2
  rw [show lgI S g + 1 = g + bl S.natAbs by omega]
  omega)
 obtain ⟨m1, hm1⟩ : ∃ m, nq X (e - lgI X e) = m := ⟨_, rfl⟩
 obtain ⟨m2, hm2⟩ : ∃ m, nq Y (f - lgI Y f) = m := ⟨_, rfl⟩
 obtain ⟨m3, hm3⟩ : ∃ m, nq S (g - lgI S g) = m := ⟨_, rfl⟩
 rw [hm1] at e1 p1; rw [hm2] at e2 p4; rw [hm3] at e3 p3
 have q12 := MX.p2_add (j := lgI X e) (k := lgI Y f) (by omega) (by omega) (by omega)
 have pp := MX.p2_pos (lgI X e + lgI Y f)
 have eS : nq S g = m1 * m2 * p2 (lgI X e + lgI Y f) := by rw [h, p1, p4, ← q12]; grind
 have hm : 1 ≤ m1 * m2 := by
  have := Rat.mul_le_mul_of_nonneg_left e2.2.1 (show (0 : Rat) ≤ m1 by grind)
  grind
 have lw : p2 (lgI X e + lgI Y f) ≤ nq S g := by
  rw [eS]
  have := Rat.mul_le_mul_of_nonneg_right hm (Rat.le_of_lt pp)
  grind
 have hc : lgI X e + lgI Y f ≤ lgI S g := by
  rcases (show lgI X e + lgI Y f ≤ lgI S g ∨ lgI S g + 1 ≤ lgI X e + lgI Y f by omega) with k | k
  ·exact k
  ·have := MX.nq_le.2 (vd1_le k)
   exfalso
   have h3 : p2 (lgI S g + 1) ≤ p2 (lgI X e + lgI Y f) := this
   grind
 obtain ⟨c, hcc⟩ : ∃ c : Nat, lgI S g = lgI X e + lgI Y f + c := ⟨(lgI S g - (lgI X e + lgI Y f)).toNat, by omega⟩
 have q3 := MX.p2_add (j := lgI X e + lgI Y f) (k := c) (by omega) (by omega) (by omega)
 have em : m1 * m2 = m3 * 2 ^ c := can pp (by rw [← eS, p3, hcc, ← q3, MX.p2_nat]; grind)
 have r := MX.log_add c e1.2 e2.2 e3.2 em
 have cl : ((lgI S g : Int) : Rat) = (lgI X e : Int) + (lgI Y f : Int) + (c : Rat) := by rw [hcc]; push_cast; rfl
 rcases hi with rfl | rfl
 ·intro d hd
  obtain ⟨N, hN⟩ := r d hd
  refine ⟨N, fun n hn => ?_⟩
  have k := hN n hn
  show (al n (um (nq X (e - lgI X e))) + lgI X e * lam n) + (al n (um (nq Y (f - lgI Y f))) + lgI Y f * lam n) ≤ (al n (um (nq S (g - lgI S g))) + lgI S g * lam n) + d ∧ (al n (um (nq S (g - lgI S g))) + lgI S g * lam n) ≤ (al n (um (nq X (e - lgI X e))) + lgI X e * lam n) + (al n (um (nq Y (f - lgI Y f))) + lgI Y f * lam n) + d
  rw [hm1, hm2, hm3, cl]
  constructor <;> grind
 ·intro d hd
  obtain ⟨N, hN⟩ := r (d * (2 / 3)) (by grind)
  refine ⟨N + 2, fun n hn => ?_⟩
  have k := hN n (by omega)
  have lp := MX.lam_pos n (by omega)
  have hI : (lam n)⁻¹ * lam n = 1 := Rat.inv_mul_cancel _ (by intro h9; rw [h9] at lp; clear r hN k; grind)
  have hI0 : 0 < (lam n)⁻¹ := Rat.inv_pos.2 (by grind)
  show (al n (um (nq X (e - lgI X e))) / lam n + lgI X e) + (al n (um (nq Y (f - lgI Y f))) / lam n + lgI Y f) ≤ (al n (um (nq S (g - lgI S g))) / lam n + lgI S g) + d ∧ (al n (um (nq S (g - lgI S g))) / lam n + lgI S g) ≤ (al n (um (nq X (e - lgI X e))) / lam n + lgI X e) + (al n (um (nq Y (f - lgI Y f))) / lam n + lgI Y f) + d
  rw [hm1, hm2, hm3, cl, Rat.div_def, Rat.div_def, Rat.div_def]
  dsimp only at k
  generalize (lam n)⁻¹ = I at hI hI0
  generalize lam n = L at *
  generalize al n (um m1) = x1 at *
  generalize al n (um m2) = x2 at *
  generalize al n (um m3) = x3 at *
  have k1 := Rat.mul_le_mul_of_nonneg_right k.1 (Rat.le_of_lt hI0)
  have k2 := Rat.mul_le_mul_of_nonneg_right k.2 (Rat.le_of_lt hI0)
  have k3 : d * (2 / 3) * I ≤ d := by
   have u := Rat.mul_le_mul_of_nonneg_left lp (Rat.le_of_lt hI0)
   have v := Rat.mul_le_mul_of_nonneg_left u (Rat.le_of_lt hd)
   rw [hI, Rat.mul_one] at v
   have e9 : d * (2 / 3) * I = d * (I * (2 / 3)) := by grind
   rw [e9]; exact v
  have k4 : (c : Rat) * L * I = c := by grind
  constructor <;> grind
theorem Sl.ng (a : Sl X e) : od (-cM X e) = -X ∧ nE (-cM X e) (cE e) = e := by
 obtain ⟨c1, c2⟩ := c_yes (X := X) (e := e) ⟨by have := a.lo; omega, by have := a.hi; omega⟩
 rw [c1, c2]; exact a.ar.neg.n
theorem Sl.sg (a : Sl X e) : sgnI (cM X e) = sgnI X := by
 rw [(c_yes (X := X) (e := e) ⟨by have := a.lo; omega, by have := a.hi; omega⟩).1]
theorem i64_and127 (n : Int) : bits .and .i64 n 127 = n % 128 := by
 have h127 : (BitVec.ofInt 64 127).toNat = 2 ^ 7 - 1 := by decide
 have key : (BitVec.ofInt 64 n &&& BitVec.ofInt 64 127).toNat = (n % ((2 ^ 64 : Nat) : Int)).toNat % 2 ^ 7 := by
  rw [BitVec.toNat_and, BitVec.toNat_ofInt, h127, Nat.and_two_pow_sub_one_eq_mod]
 show IntKind.i64.wrap ((BitVec.ofInt 64 n &&& BitVec.ofInt 64 127).toNat : Nat) = n % 128
 rw [key, IntKind.wrap_i64]
 omega
end Go.Proofs.YtjlbngjeekdfcaaGreatDoor
