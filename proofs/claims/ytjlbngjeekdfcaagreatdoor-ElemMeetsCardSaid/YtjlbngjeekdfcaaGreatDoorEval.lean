/-
 the laws of elem: what the values have to do with each other.
-/
import Derived.Test.YtjlbngjeekdfcaaGreatDoorEsmall
import Derived.Test.YtjlbngjeekdfcaaGreatDoorEnum6
import Derived.Laws.BitsAllLaws
namespace Go.Proofs.YtjlbngjeekdfcaaGreatDoor
variable {X : Int}
set_option linter.unusedVariables false
open Go.RowKit
open MX (bLo bHi tA tZ xK xR xS yR yS uR uS gR gS hR hS wK wR wS vJ vKi vN vLo vHi nq Hd Rb Rr lam al um E p2 sn cs)
def Vf (i X e : Int) (m : Nat) : Rat :=
 if i = 0 then E m (nq X e)
 else if i = 1 then p2 (flI X e) * E m ((nq X e - flI X e) * lam m)
 else if i = 2 then al m (um (nq X (e - lgI X e))) + lgI X e * lam m
 else if i = 3 then al m (um (nq X (e - lgI X e))) / lam m + lgI X e
 else if i = 4 then sn m (nq X e)
 else cs m (nq X e)
structure Fx (i X e : Int) (q : Nat) (P R : Int) : Prop where
 hd : Hd P R q (Vf i X e)
 wv : i = 4 ∨ i = 5 → -(twP q + 2) ≤ P ∧ R ≤ twP q + 2
 lg : i = 2 → Sl X e → q ≤ 127 → -(64 * twP q) ≤ P ∧ R ≤ 64 * twP q
def OuV (w : World) (q : Int) (F : Int → Int → Prop) (e : Ending) (w' : World) : Prop := ∃ X Y A n c A2 n2 c2, e = .returned (.tuple #[.agg #[.bool (ngB X), .slice A n c, .bool (ngB Y), .slice A2 n2 c2, .int .i64 q], .bool true]) ∧ Zn w' A n c X 140 ∧ Zn w' A2 n2 c2 Y 140 ∧ X ≤ Y ∧ F X Y ∧ Below w.heap.size w w'
theorem OuT.v {w w' : World} {Y q : Int} {F : Int → Int → Prop} {e : Ending} (h : OuT w X Y q e w') (hl : X ≤ Y) (hF : F X Y) : OuV w q F e w' := by
 obtain ⟨A, n, c, A2, n2, c2, he, z, z2, hb⟩ := h
 exact ⟨X, Y, A, n, c, A2, n2, c2, he, z, z2, hl, hF, hb⟩
theorem fl0 (X : Int) : flI X 0 = X := by unfold flI; rw [if_neg (by omega)]; simp
theorem fl00 {P R : Int} {q : Nat} {V : Nat → Rat} (h : Hd (rcL P q) (rcH R q) q V) : Hd (flI (rcL P q) 0) (-flI (-rcH R q) 0) q V := by
 rw [fl0, fl0, Int.neg_neg]; exact h
theorem nq_ab {e : Int} : (if decide (X < 0) = true then -nq (X.natAbs : Int) e else nq (X.natAbs : Int) e) = nq X e := by
 rcases (show X < 0 ∨ ¬ X < 0 by omega) with h | h
 ·rw [if_pos (by simpa using h), show (X.natAbs : Int) = -X by omega, MX.nq_neg]; grind
 ·rw [if_neg (by simpa using h), show (X.natAbs : Int) = X by omega]
section
variable {b : Bool} {A : Option Addr} {n c : Nat} {X e : Int} {w : World}
theorem Fat {i : Int} (hi : 0 ≤ i ∧ i ≤ 5) (h : Zr w b A n c X 8) (hT : Tab w) (a : Ar X e) {q : Nat} (hq : q < 216) (hp : i = 2 ∨ i = 3 → 0 < X ∧ -100 ≤ lgI X e) : Calls Tryz.prog 12 #[.int .i64 i, .agg #[.bool b, .slice A n c, .int .i64 e], .int .i64 (q : Nat)] w (OuV w q (Fx i X e q)) := by
 have HW : 40 ≤ q + 40 ∧ q + 40 < 256 := by omega
 have hE : -4000 ≤ e := by have := a.lo; omega
 have hX : Si X 8 := h.si
 have l6 := a.lg.1
 rcases (show i = 0 ∨ i = 1 ∨ i = 2 ∨ i = 3 ∨ i = 4 ∨ i = 5 by omega) with rfl | rfl | rfl | rfl | rfl | rfl
 ·have en := exp_en a HW
  have hd := MX.exp_hd hq hE a.b ((q + 40) / 4 + 10) (by omega)
  have x := MX.xR_ok HW hE a.b
  exact (Eat_of (by omega) (fun w hT h => EAt0 h hT a hq) h hT (rc_le en.le) ⟨by omega, by omega⟩).mono fun e w' he => he.v hd.le ⟨hd, fun k => by omega, fun k => by omega⟩
 ·have en := exp2_en a hX HW
  have r2 := a.r2 hX (by omega)
  have fl := a.fl
  have hd := MX.exp2_hd (K := flI X e) hq r2.1.1 (by omega) r2.2.2 ((q + 40) / 4 + 10) (by omega)
  rw [r2.2.1] at hd
  exact (Eat_of (by omega) (fun w hT h => EAt1 h hT a hq) h hT (rc_le en.le) ⟨by omega, by omega⟩).mono fun e w' he => he.v hd.le ⟨hd, fun k => by omega, fun k => by omega⟩
 ·obtain ⟨h0, hl⟩ := hp (Or.inl rfl)
  have s := a.sh h0 hl
  have en := log_en a h0 hl HW
  have hd := fl00 (MX.log_hd (ℓ := lgI X e) (q := q) (by omega) s.2.1.1 s.2.2 ((q + 40) / 3 + 2))
  refine (Eat_of (by omega) (fun w hT h => EAt2 h hT a hq h0 hl) h hT (rc_le en.le) ⟨by omega, by omega⟩).mono fun e w' he => he.v hd.le ⟨hd, fun k => by omega, fun _ sl h7 => ?_⟩
  have g := log_64 sl h0 h7
  have l := en.le
  rw [fl0, fl0, Int.neg_neg]
  exact ⟨(rc_bd64 ⟨g.1, by omega⟩).1.1, (rc_bd64 ⟨by omega, g.2⟩).2.2⟩
 ·obtain ⟨h0, hl⟩ := hp (Or.inr rfl)
  have s := a.sh h0 hl
  have en := log2_en a h0 hl HW
  have hd := fl00 (MX.log2_hd (ℓ := lgI X e) hq s.2.1.1 s.2.2 ((q + 40) / 3 + 2))
  exact (Eat_of (by omega) (fun w hT h => EAt3 h hT a hq h0 hl) h hT (rc_le en.le) ⟨by omega, by omega⟩).mono fun e w' he => he.v hd.le ⟨hd, fun k => by omega, fun k => by omega⟩
 all_goals
  have hn : 0 ≤ nq (X.natAbs : Int) e ∧ nq (X.natAbs : Int) e ≤ nq 64 0 := by
   refine ⟨nq_nn (by omega), ?_⟩
   rcases (show (X.natAbs : Int) = X ∨ (X.natAbs : Int) = -X by omega) with g | g
   ·rw [g]; exact a.b.2
   ·rw [g]; exact a.neg.b.2
 ·have en := wave_en (co := false) (neg := decide (X < 0)) a HW
  have hd := MX.wave_hd (c := false) (neg := decide (X < 0)) hq hE hn ((q + 40) / 8 + 6) (by omega)
  have bd := MX.v_bd (c := false) (neg := decide (X < 0)) HW hE hn (n := (q + 40) / 8 + 6) (by omega)
  have hv : Hd (flI (rcL (vLo false (decide (X < 0)) (X.natAbs : Int) e (q + 40) ((q + 40) / 8 + 6)) q) 0) (-flI (-rcH (vHi false (decide (X < 0)) (X.natAbs : Int) e (q + 40) ((q + 40) / 8 + 6)) q) 0) q (Vf 4 X e) := by
   refine fl00 ?_
   have ev : (fun m => if false = true then cs m (if decide (X < 0) = true then -nq (X.natAbs : Int) e else nq (X.natAbs : Int) e) else sn m (if decide (X < 0) = true then -nq (X.natAbs : Int) e else nq (X.natAbs : Int) e)) = Vf 4 X e := funext fun m => by rw [nq_ab]; rfl
   rw [← ev]; exact hd
  refine (Eat_of (by omega) (fun w hT h => EAt4 h hT a hq) h hT (rc_le en.le) ⟨by omega, by omega⟩).mono fun e w' he => he.v hv.le ⟨hv, fun _ => ?_, fun k => by omega⟩
  rw [fl0, fl0, Int.neg_neg]
  exact ⟨MX.recast_bd2 bd.2 (by omega), MX.recast_bd bd.1 (by omega)⟩
 ·have en := wave_en (co := true) (neg := decide (X < 0)) a HW
  have hd := MX.wave_hd (c := true) (neg := decide (X < 0)) hq hE hn ((q + 40) / 8 + 6) (by omega)
  have bd := MX.v_bd (c := true) (neg := decide (X < 0)) HW hE hn (n := (q + 40) / 8 + 6) (by omega)
  have hv : Hd (flI (rcL (vLo true (decide (X < 0)) (X.natAbs : Int) e (q + 40) ((q + 40) / 8 + 6)) q) 0) (-flI (-rcH (vHi true (decide (X < 0)) (X.natAbs : Int) e (q + 40) ((q + 40) / 8 + 6)) q) 0) q (Vf 5 X e) := by
   refine fl00 ?_
   have ev : (fun m => if true = true then cs m (if decide (X < 0) = true then -nq (X.natAbs : Int) e else nq (X.natAbs : Int) e) else sn m (if decide (X < 0) = true then -nq (X.natAbs : Int) e else nq (X.natAbs : Int) e)) = Vf 5 X e := funext fun m => by rw [nq_ab]; rfl
   rw [← ev]; exact hd
  refine (Eat_of (by omega) (fun w hT h => EAt5 h hT a hq) h hT (rc_le en.le) ⟨by omega, by omega⟩).mono fun e w' he => he.v hv.le ⟨hv, fun _ => ?_, fun k => by omega⟩
  rw [fl0, fl0, Int.neg_neg]
  exact ⟨MX.recast_bd2 bd.2 (by omega), MX.recast_bd bd.1 (by omega)⟩
end
end Go.Proofs.YtjlbngjeekdfcaaGreatDoor

namespace Go.Proofs.YtjlbngjeekdfcaaGreatDoor
variable {X e : Int}
set_option linter.unusedVariables false
open Go.RowKit
open MX (bLo bHi tA tZ xK xR xS yR yS uR uS gR gS hR hS wK wR wS vJ vKi vN vLo vHi nq Hd Rb Rr lam al um E p2 sn cs)
theorem Sl.ng (a : Sl X e) : od (-cM X e) = -X ∧ nE (-cM X e) (cE e) = e := by
 obtain ⟨c1, c2⟩ := c_yes (X := X) (e := e) ⟨by have := a.lo; omega, by have := a.hi; omega⟩
 rw [c1, c2]; exact a.ar.neg.n
theorem Sl.sg (a : Sl X e) : sgnI (cM X e) = sgnI X := by
 rw [(c_yes (X := X) (e := e) ⟨by have := a.lo; omega, by have := a.hi; omega⟩).1]
theorem Fx.met {i j Y f P R U V : Int} {p q : Nat} (a : Fx i X e p P R) (b : Fx j Y f q U V) (h : Vf i X e = Vf j Y f) (hp : p ≤ 300) (hq : q ≤ 300) : metB P R p U V q = true :=
 MX.met_of a.hd (h ▸ b.hd) ⟨by omega, by omega, a.hd.le⟩ ⟨by omega, by omega, b.hd.le⟩
theorem i64_and127 (n : Int) : bits .and .i64 n 127 = n % 128 := by
 have h127 : (BitVec.ofInt 64 127).toNat = 2 ^ 7 - 1 := by decide
 have key : (BitVec.ofInt 64 n &&& BitVec.ofInt 64 127).toNat = (n % ((2 ^ 64 : Nat) : Int)).toNat % 2 ^ 7 := by
  rw [BitVec.toNat_and, BitVec.toNat_ofInt, h127, Nat.and_two_pow_sub_one_eq_mod]
 show IntKind.i64.wrap ((BitVec.ofInt 64 n &&& BitVec.ofInt 64 127).toNat : Nat) = n % 128
 rw [key, IntKind.wrap_i64]
 omega
end Go.Proofs.YtjlbngjeekdfcaaGreatDoor
