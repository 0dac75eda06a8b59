/-
 the laws of elem: what the values have to do with each other.
-/
import Derived.Test.YtjlbngjeekdfcaaGreatDoorEsmall
import Derived.Test.YtjlbngjeekdfcaaGreatDoorEnum6
import Derived.Laws.BitsAllLaws
namespace Go.Proofs.YtjlbngjeekdfcaaGreatDoor
variable {X : Int}
set_option linter.unusedVariables false
open Go.RowKit
open MX (bLo bHi tA tZ xK xR xS yR yS uR uS gR gS hR hS wK wR wS vJ vKi vN vLo vHi nq Hd Rb Rr lam al um E p2 sn cs)
def Vf (i X e : Int) (m : Nat) : Rat :=
 if i = 0 then E m (nq X e)
 else if i = 1 then p2 (flI X e) * E m ((nq X e - flI X e) * lam m)
 else if i = 2 then al m (um (nq X (e - lgI X e))) + lgI X e * lam m
 else if i = 3 then al m (um (nq X (e - lgI X e))) / lam m + lgI X e
 else if i = 4 then sn m (nq X e)
 else cs m (nq X e)
structure Fx (i X e : Int) (q : Nat) (P R : Int) : Prop where
 hd : Hd P R q (Vf i X e)
 wv : i = 4 ∨ i = 5 → -(twP q + 2) ≤ P ∧ R ≤ twP q + 2
 lg : i = 2 → Sl X e → q ≤ 127 → -(64 * twP q) ≤ P ∧ R ≤ 64 * twP q
def OuV (w : World) (q : Int) (F : Int → Int → Prop) (e : Ending) (w' : World) : Prop := ∃ X Y A n c A2 n2 c2, e = .returned (.tuple #[.agg #[.bool (ngB X), .slice A n c, .bool (ngB Y), .slice A2 n2 c2, .int .i64 q], .bool true]) ∧ Zn w' A n c X 140 ∧ Zn w' A2 n2 c2 Y 140 ∧ X ≤ Y ∧ F X Y ∧ Below w.heap.size w w'
theorem OuT.v {w w' : World} {Y q : Int} {F : Int → Int → Prop} {e : Ending} (h : OuT w X Y q e w') (hl : X ≤ Y) (hF : F X Y) : OuV w q F e w' := by
 obtain ⟨A, n, c, A2, n2, c2, he, z, z2, hb⟩ := h
 exact ⟨X, Y, A, n, c, A2, n2, c2, he, z, z2, hl, hF, hb⟩
theorem fl0 (X : Int) : flI X 0 = X := by unfold flI; rw [if_neg (by omega)]; simp
theorem fl00 {P R : Int} {q : Nat} {V : Nat → Rat} (h : Hd (rcL P q) (rcH R q) q V) : Hd (flI (rcL P q) 0) (-flI (-rcH R q) 0) q V := by
 rw [fl0, fl0, Int.neg_neg]; exact h
theorem nq_ab {e : Int} : (if decide (X < 0) = true then -nq (X.natAbs : Int) e else nq (X.natAbs : Int) e) = nq X e := by
 rcases (show X < 0 ∨ ¬ X < 0 by omega) with h | h
 ·rw [if_pos (by simpa using h), show (X.natAbs : Int) = -X by omega, MX.nq_neg]; grind
 ·rw [if_neg (by simpa using h), show (X.natAbs : Int) = X by omega]
section
variable {b : Bool} {A : Option Addr} {n c : Nat} {X e : Int} {w : World}
theorem Fat {i : Int} (hi : 0 ≤ i ∧ i ≤ 5) (h : Zr w b A n c X 8) (hT : Tab w) (a : Ar X e) {q : Nat} (hq : q < 216) (hp : i = 2 ∨ i = 3 → 0 < X ∧ -100 ≤ lgI X e) : Calls Tryz.prog 12 #[.int .i64 i, .agg #[.bool b, .slice A n c, .int .i64 e], .int .i64 (q : Nat)] w (OuV w q (Fx i X e q)) := by
 have HW : 40 ≤ q + 40 ∧ q + 40 < 256 := by omega
 have hE : -4000 ≤ e := by have := a.lo; omega
 have hX : Si X 8 := h.si
 have l6 := a.lg.1
 rcases (show i = 0 ∨ i = 1 ∨ i = 2 ∨ i = 3 ∨ i = 4 ∨ i = 5 by omega) with rfl | rfl | rfl | rfl | rfl | rfl
 ·have en := exp_en a HW
  have hd := MX.exp_hd hq hE a.b ((q + 40) / 4 + 10) (by omega)
  have x := MX.xR_ok HW hE a.b
  exact (Eat_of (by omega) (fun w hT h => EAt0 h hT a hq) h hT (rc_le en.le) ⟨by omega, by omega⟩).mono fun e w' he => he.v hd.le ⟨hd, fun k => by omega, fun k => by omega⟩
 ·have en := exp2_en a hX HW
  have r2 := a.r2 hX (by omega)
  have fl := a.fl
  have hd := MX.exp2_hd (K := flI X e) hq r2.1.1 (by omega) r2.2.2 ((q + 40) / 4 + 10) (by omega)
  rw [r2.2.1] at hd
  exact (Eat_of (by omega) (fun w hT h => EAt1 h hT a hq) h hT (rc_le en.le) ⟨by omega, by omega⟩).mono fun e w' he => he.v hd.le ⟨hd, fun k => by omega, fun k => by omega⟩
 ·obtain ⟨h0, hl⟩ := hp (Or.inl rfl)
  have s := a.sh h0 hl
  have en := log_en a h0 hl HW
  have hd := fl00 (MX.log_hd (ℓ := lgI X e) (q := q) (by omega) s.2.1.1 s.2.2 ((q + 40) / 3 + 2))
  refine (Eat_of (by omega) (fun w hT h => EAt2 h hT a hq h0 hl) h hT (rc_le en.le) ⟨by omega, by omega⟩).mono fun e w' he => he.v hd.le ⟨hd, fun k => by omega, fun _ sl h7 => ?_⟩
  have g := log_64 sl h0 h7
  have l := en.le
  rw [fl0, fl0, Int.neg_neg]
  exact ⟨(rc_bd64 ⟨g.1, by omega⟩).1.1, (rc_bd64 ⟨by omega, g.2⟩).2.2⟩
 ·obtain ⟨h0, hl⟩ := hp (Or.inr rfl)
  have s := a.sh h0 hl
  have en := log2_en a h0 hl HW
  have hd := fl00 (MX.log2_hd (ℓ := lgI X e) hq s.2.1.1 s.2.2 ((q + 40) / 3 + 2))
  exact (Eat_of (by omega) (fun w hT h => EAt3 h hT a hq h0 hl) h hT (rc_le en.le) ⟨by omega, by omega⟩).mono fun e w' he => he.v hd.le ⟨hd, fun k => by omega, fun k => by omega⟩
 all_goals
  have hn : 0 ≤ nq (X.natAbs : Int) e ∧ nq (X.natAbs : Int) e ≤ nq 64 0 := by
   refine ⟨nq_nn (by omega), ?_⟩
   rcases (show (X.natAbs : Int) = X ∨ (X.natAbs : Int) = -X by omega) with g | g
   ·rw [g]; exact a.b.2
   ·rw [g]; exact a.neg.b.2
 ·have en := wave_en (co := false) (neg := decide (X < 0)) a HW
  have hd := MX.wave_hd (c := false) (neg := decide (X < 0)) hq hE hn ((q + 40) / 8 + 6) (by omega)
  have bd := MX.v_bd (c := false) (neg := decide (X < 0)) HW hE hn (n := (q + 40) / 8 + 6) (by omega)
  have hv : Hd (flI (rcL (vLo false (decide (X < 0)) (X.natAbs : Int) e (q + 40) ((q + 40) / 8 + 6)) q) 0) (-flI (-rcH (vHi false (decide (X < 0)) (X.natAbs : Int) e (q + 40) ((q + 40) / 8 + 6)) q) 0) q (Vf 4 X e) := by
   refine fl00 ?_
   have ev : (fun m => if false = true then cs m (if decide (X < 0) = true then -nq (X.natAbs : Int) e else nq (X.natAbs : Int) e) else sn m (if decide (X < 0) = true then -nq (X.natAbs : Int) e else nq (X.natAbs : Int) e)) = Vf 4 X e := funext fun m => by rw [nq_ab]; rfl
   rw [← ev]; exact hd
  refine (Eat_of (by omega) (fun w hT h => EAt4 h hT a hq) h hT (rc_le en.le) ⟨by omega, by omega⟩).mono fun e w' he => he.v hv.le ⟨hv, fun _ => ?_, fun k => by omega⟩
  rw [fl0, fl0, Int.neg_neg]
  exact ⟨MX.recast_bd2 bd.2 (by omega), MX.recast_bd bd.1 (by omega)⟩
 ·have en := wave_en (co := true) (neg := decide (X < 0)) a HW
  have hd := MX.wave_hd (c := true) (neg := decide (X < 0)) hq hE hn ((q + 40) / 8 + 6) (by omega)
  have bd := MX.v_bd (c := true) (neg := decide (X < 0)) HW hE hn (n := (q + 40) / 8 + 6) (by omega)
  have hv : Hd (flI (rcL (vLo true (decide (X < 0)) (X.natAbs : Int) e (q + 40) ((q + 40) / 8 + 6)) q) 0) (-flI (-rcH (vHi true (decide (X < 0)) (X.natAbs : Int) e (q + 40) ((q + 40) / 8 + 6)) q) 0) q (Vf 5 X e) := by
   refine fl00 ?_
   have ev : (fun m => if true = true then cs m (if decide (X < 0) = true then -nq (X.natAbs : Int) e else nq (X.natAbs : Int) e) else sn m (if decide (X < 0) = true then -nq (X.natAbs : Int) e else nq (X.natAbs : Int) e)) = Vf 5 X e := funext fun m => by rw [nq_ab]; rfl
   rw [← ev]; exact hd
  refine (Eat_of (by omega) (fun w hT h => EAt5 h hT a hq) h hT (rc_le en.le) ⟨by omega, by omega⟩).mono fun e w' he => he.v hv.le ⟨hv, fun _ => ?_, fun k => by omega⟩
  rw [fl0, fl0, Int.neg_neg]
  exact ⟨MX.recast_bd2 bd.2 (by omega), MX.recast_bd bd.1 (by omega)⟩
end
end Go.Proofs.YtjlbngjeekdfcaaGreatDoor
namespace Go.Proofs.YtjlbngjeekdfcaaGreatDoor
variable {X Y q : Int}
set_option linter.unusedVariables false
open Go.RowKit
theorem nE_le {e : Int} {k : Nat} (h : Bt X k) {lo hi : Int} (h0 : lo ≤ e) (h1 : e + k ≤ hi) (h2 : lo ≤ 0) (h3 : 0 ≤ hi) : lo ≤ nE X e ∧ nE X e ≤ hi := by
 unfold nE
 split
 ·omega
 ·have := h.tzlt ‹_›; omega
end Go.Proofs.YtjlbngjeekdfcaaGreatDoor
namespace Go.Proofs.YtjlbngjeekdfcaaGreatDoor.MX
variable {X Y q : Int}
set_option linter.unusedVariables false
open Rg
theorem e_mono {s t : Nat → Rat} (bs : Rb s) (bt : Rb t) (h : ∀ n, s n ≤ t n) : ∀ d : Rat, 0 < d → ∃ N, ∀ n, N ≤ n → E n (s n) ≤ E n (t n) + d := by
 intro d hd
 obtain ⟨A, hA, a⟩ := bs
 have bs' : Rb s := ⟨A, hA, a⟩
 have bc := Rb.const A
 obtain ⟨N, hN⟩ := e_add bs' bc (d / 2) (half2 hd)
 obtain ⟨M, hM⟩ := e_add bt bc (d / 2) (half2 hd)
 refine ⟨N + M + 1, fun n hn => ?_⟩
 have h1 := (hN n (by omega)).1
 have h2 := (hM n (by omega)).2
 dsimp only at h1 h2
 have h3 := E_mono (a := s n + A) (b := t n + A) (by have := (a n).1; grind) (by have := h n; grind) n
 have h4 : 1 ≤ E n A := by
  obtain ⟨m, rfl⟩ : ∃ m, n = m + 1 := ⟨n - 1, by omega⟩
  have := S_mono (ex_nn hA) (show 1 ≤ m + 1 by omega)
  refine Rat.le_trans ?_ this
  show (1 : Rat) ≤ 0 + 1
  grind
 rcases (show E n (s n) ≤ E n (t n) ∨ E n (t n) < E n (s n) by grind) with c | c
 ·grind
 ·have := Rat.mul_le_mul_of_nonneg_left h4 (show 0 ≤ E n (s n) - E n (t n) by grind)
  grind
theorem e_logx {m : Rat} {ℓ : Int} (h : 1 ≤ m) (h2 : m ≤ 2) (hl : -2000 ≤ ℓ ∧ ℓ ≤ 2000) : Rb (fun n => al n (um m) + ℓ * lam n) ∧ Rr (fun n => E n (al n (um m) + ℓ * lam n)) (fun _ => m * p2 ℓ) := by
 obtain ⟨u0, u1, ue⟩ := um_in h h2
 have ba : Rb (fun n => al n (um m)) := al_rb (by rw [ab_of u0]; grind)
 have bl : Rb (fun n => al n (um m) + ℓ * lam n) := ba.add (lam_rb.mulc (ℓ : Rat))
 refine ⟨bl, ?_⟩
 rcases (show 0 ≤ ℓ ∨ ℓ < 0 by omega) with s | s
 ·obtain ⟨k, rfl⟩ := Int.eq_ofNat_of_zero_le s
  have r := (e_lam ba k).2
  have r2 := (e_um h h2).cmul (2 ^ k) ba.E
  refine Rr.trans r (Rr.trans r2 (Rr.of_eq fun n => ?_))
  show 2 ^ k * m = m * p2 (k : Int)
  rw [p2_nat, Rat.mul_comm]
 ·obtain ⟨k, rfl⟩ : ∃ k : Nat, ℓ = -(k : Int) := ⟨ℓ.natAbs, by omega⟩
  have r := (e_lam bl k).2
  have e1 : (fun n => E n (al n (um m) + ((-(k : Int) : Int) : Rat) * lam n + k * lam n)) = (fun n => E n (al n (um m))) := funext fun n => congrArg (E n) (by
   rw [Rat.intCast_neg]
   have : ((((k : Nat) : Int)) : Rat) = (k : Rat) := rfl
   rw [this]; grind)
  rw [e1] at r
  have r2 := Rr.trans (Rr.symm r) (e_um h h2)
  have b2 : Rb (fun n => 2 ^ k * E n (al n (um m) + ((-(k : Int) : Int) : Rat) * lam n)) := bl.E.mulc _
  have r3 := r2.cmul (p2 (-(k : Int))) b2
  refine Rr.trans (Rr.of_eq fun n => ?_) (Rr.trans r3 (Rr.of_eq fun n => ?_))
  ·show E n (al n (um m) + ((-(k : Int) : Int) : Rat) * lam n) = p2 (-(k : Int)) * (2 ^ k * E n (al n (um m) + ((-(k : Int) : Int) : Rat) * lam n))
   rw [← Rat.mul_assoc, Rat.mul_comm (p2 _), p2_neg (by omega), Rat.one_mul]
  ·show p2 (-(k : Int)) * m = m * p2 (-(k : Int))
   rw [Rat.mul_comm]
theorem back_low {V : Nat → Rat} {x : Rat} (bV : Rb V) (hx : Rr (fun n => E n (V n)) (fun _ => x)) (h : Hd X Y q V) {A B p : Int} (hA : Hd A B p (fun n => E n (nq X (-q)))) : nq A (-p) ≤ x := by
 -- brought above the end
 have bt : Rb (fun n => if V n < nq X (-q) then nq X (-q) else V n) := by
  obtain ⟨C, hC, c⟩ := bV
  have := ab_nn (nq X (-q)); have l := le_ab (nq X (-q)); have l2 := le_ab (-nq X (-q)); rw [ab_neg] at l2
  exact ⟨C + ab (nq X (-q)), by grind, fun n => by have := c n; dsimp only; split <;> constructor <;> grind⟩
 have rt : Rr (fun n => if V n < nq X (-q) then nq X (-q) else V n) V := fun d hd => by
  obtain ⟨N, hN⟩ := h d hd
  exact ⟨N, fun n hn => by have := (hN n hn).1; dsimp only; split <;> constructor <;> grind⟩
 have re := Rr.trans (Rr.E rt bt bV) hx
 have mo := e_mono (Rb.const (nq X (-q))) bt (fun n => by split <;> grind)
 rcases (show nq A (-p) ≤ x ∨ x < nq A (-p) by grind) with c | c
 ·exact c
 ·have d0 : 0 < (nq A (-p) - x) / 4 := by grind
  obtain ⟨N1, h1⟩ := hA _ d0
  obtain ⟨N2, h2⟩ := mo _ d0
  obtain ⟨N3, h3⟩ := re _ d0
  have a1 := (h1 (N1 + N2 + N3) (by omega)).1
  have a2 := h2 (N1 + N2 + N3) (by omega)
  have a3 := (h3 (N1 + N2 + N3) (by omega)).1
  dsimp only at a1 a2 a3
  grind
theorem back_high {V : Nat → Rat} {x : Rat} (bV : Rb V) (hx : Rr (fun n => E n (V n)) (fun _ => x)) (h : Hd X Y q V) {A B p : Int} (hA : Hd A B p (fun n => E n (nq Y (-q)))) : x ≤ nq B (-p) := by
 have bt : Rb (fun n => if nq Y (-q) < V n then nq Y (-q) else V n) := by
  obtain ⟨C, hC, c⟩ := bV
  have := ab_nn (nq Y (-q)); have l := le_ab (nq Y (-q)); have l2 := le_ab (-nq Y (-q)); rw [ab_neg] at l2
  exact ⟨C + ab (nq Y (-q)), by grind, fun n => by have := c n; dsimp only; split <;> constructor <;> grind⟩
 have rt : Rr (fun n => if nq Y (-q) < V n then nq Y (-q) else V n) V := fun d hd => by
  obtain ⟨N, hN⟩ := h d hd
  exact ⟨N, fun n hn => by have := (hN n hn).2; dsimp only; split <;> constructor <;> grind⟩
 have re := Rr.trans (Rr.E rt bt bV) hx
 have mo := e_mono bt (Rb.const (nq Y (-q))) (fun n => by split <;> grind)
 rcases (show x ≤ nq B (-p) ∨ nq B (-p) < x by grind) with c | c
 ·exact c
 ·have d0 : 0 < (x - nq B (-p)) / 4 := by grind
  obtain ⟨N1, h1⟩ := hA _ d0
  obtain ⟨N2, h2⟩ := mo _ d0
  obtain ⟨N3, h3⟩ := re _ d0
  have a1 := (h1 (N1 + N2 + N3) (by omega)).2
  have a2 := h2 (N1 + N2 + N3) (by omega)
  have a3 := (h3 (N1 + N2 + N3) (by omega)).2
  dsimp only at a1 a2 a3
  grind
end Go.Proofs.YtjlbngjeekdfcaaGreatDoor.MX
namespace Go.Proofs.YtjlbngjeekdfcaaGreatDoor
variable {X Y q : Int}
set_option linter.unusedVariables false
open Go.RowKit
open MX (bLo bHi tA tZ xK xR xS yR yS uR uS gR gS hR hS wK wR wS vJ vKi vN vLo vHi nq Hd Rb Rr lam al um E p2 sn cs)
theorem Ar.of {Z E : Int} (hE : -1000 ≤ E ∧ E ≤ 1000) (hb : Bt Z 1500) (h : -64 ≤ nq Z E ∧ nq Z E ≤ 64) : Ar (od Z) (nE Z E) ∧ nq (od Z) (nE Z E) = nq Z E := by
 have e := nq_nf (X := Z) (e := E) (by omega)
 have l := nE_le (e := E) hb (lo := -1000) (hi := 3000) (by omega) (by omega) (by omega) (by omega)
 refine ⟨⟨od_nf, by omega, by omega, ?_⟩, e⟩
 rw [e, c_rat]; push_cast; grind
end Go.Proofs.YtjlbngjeekdfcaaGreatDoor
namespace Go.Proofs.YtjlbngjeekdfcaaGreatDoor
variable {X e : Int}
set_option linter.unusedVariables false
open Go.RowKit
open MX (bLo bHi tA tZ xK xR xS yR yS uR uS gR gS hR hS wK wR wS vJ vKi vN vLo vHi nq Hd Rb Rr lam al um E p2 sn cs)
theorem back {P R p1 e1 p2' e2 A1 B1 A2 B2 : Int} {q : Nat} (hq : q ≤ 200) (a : Sl X e) (h0 : 0 < X) (hl : Hd P R q (Vf 2 X e)) (n1 : nq p1 e1 = nq P (-(q : Int))) (n2 : nq p2' e2 = nq R (-(q : Int))) (h1 : Hd A1 B1 q (Vf 0 p1 e1)) (h2 : Hd A2 B2 q (Vf 0 p2' e2)) :
  A1 ≤ B2 ∧ A1 ≤ -flI (-X) (e + q) ∧ flI X (e + q) ≤ B2 := by
 have lo := a.lo; have hi := a.hi
 have l := lg_3 a h0
 have s := (a.ar.sh h0 (by omega)).2
 have x := MX.e_logx (ℓ := lgI X e) s.2.1 s.2.2 ⟨by omega, by omega⟩
 have p := MX.nq_p2 X (e := e - lgI X e) (k := lgI X e) (by omega) (by omega) (by omega)
 rw [show e - lgI X e + lgI X e = e by omega] at p
 rw [← p] at x
 have g1 : Hd A1 B1 q (fun n => E n (nq P (-(q : Int)))) := by
  have ev : Vf 0 p1 e1 = fun n => E n (nq P (-(q : Int))) := funext fun m => by show E m (nq p1 e1) = _; rw [n1]
  rw [← ev]; exact h1
 have g2 : Hd A2 B2 q (fun n => E n (nq R (-(q : Int)))) := by
  have ev : Vf 0 p2' e2 = fun n => E n (nq R (-(q : Int))) := funext fun m => by show E m (nq p2' e2) = _; rw [n2]
  rw [← ev]; exact h2
 have b1 := MX.back_low x.1 x.2 hl g1
 have b2 := MX.back_high x.1 x.2 hl g2
 have v1 := MX.nq_le.1 b1
 have v2 := MX.nq_le.1 b2
 have c1 := (le_flI (Z := A1) (X := X) (e := e) (q := q) (by omega) (by omega)).2 v1
 have c2 := (ceI_le (Z := B2) (X := X) (e := e) (q := q) (by omega) (by omega)).2 v2
 have d := (MX.b_le (M := X) (e := e) (w := q)).1
 unfold MX.bLo MX.bHi at d
 exact ⟨vd_le.1 (Int.le_trans v1 v2), by omega, by omega⟩
theorem Sl.ng (a : Sl X e) : od (-cM X e) = -X ∧ nE (-cM X e) (cE e) = e := by
 obtain ⟨c1, c2⟩ := c_yes (X := X) (e := e) ⟨by have := a.lo; omega, by have := a.hi; omega⟩
 rw [c1, c2]; exact a.ar.neg.n
theorem Sl.sg (a : Sl X e) : sgnI (cM X e) = sgnI X := by
 rw [(c_yes (X := X) (e := e) ⟨by have := a.lo; omega, by have := a.hi; omega⟩).1]
theorem i64_and127 (n : Int) : bits .and .i64 n 127 = n % 128 := by
 have h127 : (BitVec.ofInt 64 127).toNat = 2 ^ 7 - 1 := by decide
 have key : (BitVec.ofInt 64 n &&& BitVec.ofInt 64 127).toNat = (n % ((2 ^ 64 : Nat) : Int)).toNat % 2 ^ 7 := by
  rw [BitVec.toNat_and, BitVec.toNat_ofInt, h127, Nat.and_two_pow_sub_one_eq_mod]
 show IntKind.i64.wrap ((BitVec.ofInt 64 n &&& BitVec.ofInt 64 127).toNat : Nat) = n % 128
 rw [key, IntKind.wrap_i64]
 omega
end Go.Proofs.YtjlbngjeekdfcaaGreatDoor
