/-
 dyad: Norm, Of, Sign, Neg, Shift, Log, Floor, Ceil.
-/
import Derived.Test.YtdonaominffpnaaGreatDoorPc
import Derived.Laws.Bits64b
import Derived.Lib.TrailingZeros
namespace Go.Proofs.YtdonaominffpnaaGreatDoor
variable {A : Option Addr} {X e q : Int} {b : Bool} {c j n t : Nat} {w : World}
set_option maxRecDepth 100000
set_option maxHeartbeats 8000000
set_option linter.unusedVariables false
def tzF : Nat → Nat → Nat
 | 0, _ => 0
 | f + 1, n => if n % 2 = 0 then tzF f (n / 2) + 1 else 0
theorem tzF_spec (f : Nat) : ∀ n, 0 < n → n ≤ f → ∃ q, q % 2 = 1 ∧ n = q * 2 ^ tzF f n := by
 induction f with
 | zero => intro n h0 h1; omega
 | succ f ih =>
  intro n h0 h1
  by_cases h : n % 2 = 0
  ·obtain ⟨q, hq, he⟩ := ih (n / 2) (by omega) (by omega)
   refine ⟨q, hq, ?_⟩
   have e : tzF (f + 1) n = tzF f (n / 2) + 1 := by simp only [tzF]; rw [if_pos h]
   rw [e, Nat.pow_succ, ← Nat.mul_assoc, ← he]
   omega
  ·refine ⟨n, by omega, ?_⟩
   have e : tzF (f + 1) n = 0 := by simp only [tzF]; rw [if_neg h]
   rw [e]; omega
def tz (X : Int) : Nat := tzF X.natAbs X.natAbs
def od (X : Int) : Int := X / 2 ^ tz X
def nE (X e : Int) : Int := if X = 0 then 0 else e + tz X
theorem two_pow_pos (k : Nat) : (0 : Int) < 2 ^ k := by
 have := Nat.two_pow_pos k
 have e : (2 : Int) ^ k = ((2 ^ k : Nat) : Int) := by rw [Int.natCast_pow]; rfl
 omega
theorem pow_cast (k : Nat) : (2 : Int) ^ k = ((2 ^ k : Nat) : Int) := by rw [Int.natCast_pow]; rfl
theorem od_zero : od 0 = 0 := by unfold od; simp
theorem tz_spec (h : X ≠ 0) : X = od X * 2 ^ tz X ∧ od X % 2 = 1 := by
 obtain ⟨q, hq, he⟩ := tzF_spec X.natAbs X.natAbs (by omega) (Nat.le_refl _)
 have hp := two_pow_pos (tz X)
 have key : ∃ Q : Int, Q % 2 = 1 ∧ X = Q * 2 ^ tz X := by
  rcases Int.lt_or_le X 0 with h0 | h0
  ·refine ⟨-(q : Int), by omega, ?_⟩
   have : ((q * 2 ^ tz X : Nat) : Int) = -X := by rw [show q * 2 ^ tz X = X.natAbs from he.symm]; omega
   rw [Int.natCast_mul, ← pow_cast] at this
   rw [Int.neg_mul]; omega
  ·refine ⟨(q : Int), by omega, ?_⟩
   have : ((q * 2 ^ tz X : Nat) : Int) = X := by rw [show q * 2 ^ tz X = X.natAbs from he.symm]; omega
   rw [Int.natCast_mul, ← pow_cast] at this
   omega
 obtain ⟨Q, hQ, hX⟩ := key
 have : od X = Q := by
  unfold od
  generalize (2 : Int) ^ tz X = p at *
  rw [hX]
  exact Int.mul_ediv_cancel _ (by omega)
 rw [this]
 exact ⟨hX, hQ⟩
theorem od_ne (h : X ≠ 0) : od X ≠ 0 := fun h0 => by have := (tz_spec h).2; omega
theorem odd_pow {r : Int} {s : Nat} (hq : q % 2 = 1) (hr : r % 2 = 1) (h : q * 2 ^ s = r * 2 ^ t) : s ≤ t := by
 rcases Nat.lt_or_ge t s with hlt | hge
 ·exfalso
  obtain ⟨d, rfl⟩ : ∃ d, s = t + (d + 1) := ⟨s - t - 1, by omega⟩
  rw [Int.pow_add, ← Int.mul_assoc, Int.mul_right_comm] at h
  have h1 := Int.eq_of_mul_eq_mul_right (by have := two_pow_pos t; omega) h
  rw [Int.pow_succ, ← Int.mul_assoc] at h1
  omega
 ·exact hge
theorem nf_unique (h : X = q * 2 ^ t) (hq : q % 2 = 1) : tz X = t ∧ od X = q := by
 have hX : X ≠ 0 := by
  intro h0
  rw [h0] at h
  have := Int.mul_eq_zero.1 h.symm
  have h2 := two_pow_pos t
  omega
 obtain ⟨h1, h2⟩ := tz_spec hX
 have e : od X * 2 ^ tz X = q * 2 ^ t := h1.symm.trans h
 have ht : tz X = t := Nat.le_antisymm (odd_pow h2 hq e) (odd_pow hq h2 e.symm)
 refine ⟨ht, ?_⟩
 rw [ht] at e
 exact Int.eq_of_mul_eq_mul_right (by have := two_pow_pos t; omega) e
theorem mul_pow_ne (k : Nat) : X * 2 ^ k = 0 ↔ X = 0 := by
 rw [Int.mul_eq_zero]
 have := two_pow_pos k
 omega
theorem od_shl (X : Int) (k : Nat) : od (X * 2 ^ k) = od X := by
 by_cases h : X = 0
 ·subst h; rw [Int.zero_mul]
 ·obtain ⟨h1, h2⟩ := tz_spec h
  exact (nf_unique (t := tz X + k) (by rw [Int.pow_add, ← Int.mul_assoc, ← h1]) h2).2
theorem tz_shl (h : X ≠ 0) (k : Nat) : tz (X * 2 ^ k) = tz X + k := by
 obtain ⟨h1, h2⟩ := tz_spec h
 exact (nf_unique (t := tz X + k) (by rw [Int.pow_add, ← Int.mul_assoc, ← h1]) h2).1
theorem nE_shl (X e : Int) (k : Nat) : nE (X * 2 ^ k) e = nE X (e + k) := by
 unfold nE
 by_cases h : X = 0
 ·rw [if_pos h, if_pos ((mul_pow_ne k).2 h)]
 ·rw [if_neg h, if_neg (fun h1 => h ((mul_pow_ne k).1 h1)), tz_shl h]; omega
theorem nE_zero (e : Int) : nE 0 e = 0 := rfl
theorem nE_ne (h : X ≠ 0) (e : Int) : nE X e = e + tz X := by unfold nE; rw [if_neg h]
theorem od_nf : od (od X) = od X ∧ nE (od X) (nE X e) = nE X e := by
 by_cases h : X = 0
 ·subst h; rw [od_zero, od_zero]; exact ⟨rfl, rfl⟩
 ·obtain ⟨h1, h2⟩ := tz_spec h
  obtain ⟨h3, h4⟩ := nf_unique (X := od X) (t := 0) (by omega) h2
  exact ⟨h4, by rw [nE_ne (od_ne h), h3]; omega⟩
def rE (e : Int) : Bool := decide (-4000 ≤ e ∧ e ≤ 4000)
def cM (X e : Int) : Int := if rE e then X else 0
def cE (e : Int) : Int := if rE e then e else 0
theorem cE_in (e : Int) : -4000 ≤ cE e ∧ cE e ≤ 4000 := by
 unfold cE rE
 by_cases h : -4000 ≤ e ∧ e ≤ 4000
 ·rw [if_pos (decide_eq_true h)]; exact h
 ·rw [if_neg (by simpa using h)]; omega
theorem c_yes (h : -4000 ≤ e ∧ e ≤ 4000) : cM X e = X ∧ cE e = e := by
 have : rE e = true := decide_eq_true h
 unfold cM cE; rw [this]; exact ⟨rfl, rfl⟩
theorem c_no (h : ¬ (-4000 ≤ e ∧ e ≤ 4000)) : cM X e = 0 ∧ cE e = 0 := by
 have : rE e = false := decide_eq_false h
 unfold cM cE; rw [this]; exact ⟨rfl, rfl⟩
def li (n : Int) : Int := min (max n (-4000)) 4000
theorem li_in (n : Int) : -4000 ≤ li n ∧ li n ≤ 4000 := by unfold li; omega
section
open Go.RowKit
def Dx (w : World) (g : Nat) (b : Bool) (A : Option Addr) (n c : Nat) (e : Int) : Prop := w.heap[g]? = some (.cells #[.bool b, .slice A n c, .int .i64 e] 55 (0, 0))
section
variable {w w' : World} {g n c B n' c' : Nat} {b : Bool} {A A' : Option Addr} {l : List Int} {e : Int}
theorem Dx.lt (h : Dx w g b A n c e) : g < w.heap.size := by
 rcases Nat.lt_or_ge g w.heap.size with hlt | hge
 ·exact hlt
 ·unfold Dx at h; rw [Array.getElem?_eq_none hge] at h; cases h
theorem Dx.c0 (h : Dx w g b A n c e) : w.cell? ⟨g, 0, none⟩ = some (.bool b) := by rw [cell_of_row w g 0 _ _ (0, 0) h]; rfl
theorem Dx.c1 (h : Dx w g b A n c e) : w.cell? ⟨g, 1, none⟩ = some (.slice A n c) := by rw [cell_of_row w g 1 _ _ (0, 0) h]; rfl
theorem Dx.c2 (h : Dx w g b A n c e) : w.cell? ⟨g, 2, none⟩ = some (.int .i64 e) := by rw [cell_of_row w g 2 _ _ (0, 0) h]; rfl
theorem Dx.fr (h : Dx w g b A n c e) (i : Nat) : w.frozen? ⟨g, i, none⟩ = false := by
 unfold Dx at h
 simp [World.frozen?, h]
theorem Dx.new (w : World) (b : Bool) (A : Option Addr) (n c : Nat) (e : Int) : Dx (w.alloc (.cells #[.bool b, .slice A n c, .int .i64 e] 55)) w.heap.size b A n c e := heap_alloc_new w _
theorem Dx.alloc (h : Dx w g b A n c e) (o : Obj) : Dx (w.alloc o) g b A n c e := (Below.heap_alloc w o g h.lt).trans h
theorem Dx.below {B : Nat} (h : Dx w g b A n c e) (hb : Below B w w') (hg : g < B) : Dx w' g b A n c e := (hb.block g hg).trans h
theorem Dx.keep (h : Dx w g b A n c e) (hb : Below w.heap.size w w') : Dx w' g b A n c e := h.below hb h.lt
instance Dx.mv {v w : World} : Mv (Dx v g b A n c e) v w (Dx w g b A n c e) := ⟨fun h hb => Dx.keep h hb⟩
theorem Dx.al {g : Nat} (h : Dx w g b A n c e) : w.cell? ⟨g, 0, none⟩ = some (.bool b) ∧ w.frozen? ⟨g, 0, none⟩ = false ∧ w.cell? ⟨g, 1, none⟩ = some (.slice A n c) ∧ w.frozen? ⟨g, 1, none⟩ = false ∧ w.cell? ⟨g, 2, none⟩ = some (.int .i64 e) ∧ w.frozen? ⟨g, 2, none⟩ = false := ⟨h.c0, h.fr 0, h.c1, h.fr 1, h.c2, h.fr 2⟩
theorem Dx.far (h : Dx w g b A n c e) {p : Addr} (hp : g ≠ p.block) (u : Value) : Dx (w.setCell p u) g b A n c e := (Below.heap_setCell w p u g hp).trans h
end
section
variable {w w' : World} {g h B n c n' c' k j : Nat} {b b' : Bool} {A A' : Option Addr} {l : List Int} {e e' X : Int} {b2 : Bool} {A2 : Option Addr} {n2 c2 : Nat} {e2 : Int}
theorem Dx.put (x : Dx w g b A n c e) (b' : Bool) (A' : Option Addr) (n' c' : Nat) (e' : Int) : Dx (((w.setCell ⟨g, 0, none⟩ (.bool b')).setCell ⟨g, 1, none⟩ (.slice A' n' c')).setCell ⟨g, 2, none⟩ (.int .i64 e')) g b' A' n' c' e' := by
 unfold Dx at x ⊢
 simp [World.setCell, Array.getElem?_modify, x]
theorem put_belowD {w0 : World} (hb : Below B w0 w) (hg : B ≤ g) (u u' u2 : Value) : Below B w0 (((w.setCell ⟨g, 0, none⟩ u).setCell ⟨g, 1, none⟩ u').setCell ⟨g, 2, none⟩ u2) := ((hb.setCell hg _).setCell hg _).setCell hg _
theorem Rd.putD (hr : Rd w B A' n' c' l) (x : Dx w g b A n c e) (b2 : Bool) (A2 : Option Addr) (n2 c2 : Nat) (e2 : Int) : Rd (((w.setCell ⟨g, 0, none⟩ (.bool b2)).setCell ⟨g, 1, none⟩ (.slice A2 n2 c2)).setCell ⟨g, 2, none⟩ (.int .i64 e2)) B A' n' c' l := by
 have h0 := x.c0
 have h1 := x.c1
 have h2 := x.c2
 refine ⟨hr.1, hr.2.1, hr.2.2.1, hr.2.2.2.1, fun hn => ?_⟩
 obtain ⟨d, off, e, hd, hc⟩ := hr.at_ hn
 refine ⟨d, off, e, hd, fun k hk => ?_⟩
 have hck := hc k hk
 have e0 : (⟨d, off + k, none⟩ : Addr) ≠ ⟨g, 0, none⟩ := fun e => by rw [e, h0] at hck; cases hck
 have e1 : (⟨d, off + k, none⟩ : Addr) ≠ ⟨g, 1, none⟩ := fun e => by rw [e, h1] at hck; cases hck
 have e2 : (⟨d, off + k, none⟩ : Addr) ≠ ⟨g, 2, none⟩ := fun e => by rw [e, h2] at hck; cases hck
 rw [World.cell?_setCell_other _ _ _ _ e2.symm, World.cell?_setCell_other _ _ _ _ e1.symm, World.cell?_setCell_other _ _ _ _ e0.symm]
 exact hck
theorem Rd.sputD (hr : Rd w w.heap.size A n c l) (x : Dx w g b2 A2 n2 c2 e2) : Rd (((w.setCell ⟨g, 0, none⟩ (.bool b')).setCell ⟨g, 1, none⟩ (.slice A' n' c')).setCell ⟨g, 2, none⟩ (.int .i64 e')) (((w.setCell ⟨g, 0, none⟩ (.bool b')).setCell ⟨g, 1, none⟩ (.slice A' n' c')).setCell ⟨g, 2, none⟩ (.int .i64 e')).heap.size A n c l :=
 (hr.putD x _ _ _ _ _).more (by simp [World.setCell])
theorem Zr.putD (hr : Zr w b A n c X k) (x : Dx w g b2 A2 n2 c2 e2) : Zr (((w.setCell ⟨g, 0, none⟩ (.bool b')).setCell ⟨g, 1, none⟩ (.slice A' n' c')).setCell ⟨g, 2, none⟩ (.int .i64 e')) b A n c X k := by
 obtain ⟨l, h1, h2, h3⟩ := hr
 exact ⟨l, h1.sputD x, h2, h3⟩
theorem Zn.putD (hr : Zn w A n c X k) (x : Dx w g b2 A2 n2 c2 e2) : Zn (((w.setCell ⟨g, 0, none⟩ (.bool b')).setCell ⟨g, 1, none⟩ (.slice A' n' c')).setCell ⟨g, 2, none⟩ (.int .i64 e')) A n c X k :=
 ⟨hr.1.sputD x, hr.2⟩
theorem Dx.aside (x : Dx w h b A n c e) (hg : h ≠ g) : Dx ((w.setCell ⟨g, 0, none⟩ (.bool b')).setCell ⟨g, 1, none⟩ (.slice A' n' c')) h b A n c e := (x.far hg _).far hg _
theorem Dx.asideD (x : Dx w h b A n c e) (hg : h ≠ g) : Dx (((w.setCell ⟨g, 0, none⟩ (.bool b')).setCell ⟨g, 1, none⟩ (.slice A' n' c')).setCell ⟨g, 2, none⟩ (.int .i64 e')) h b A n c e := ((x.far hg _).far hg _).far hg _
theorem Bx.asideD (x : Bx w h b A n c) (hg : h ≠ g) : Bx (((w.setCell ⟨g, 0, none⟩ (.bool b')).setCell ⟨g, 1, none⟩ (.slice A' n' c')).setCell ⟨g, 2, none⟩ (.int .i64 e')) h b A n c := ((x.far hg _).far hg _).far hg _
end
structure Tab (w : World) : Prop where
 at_ : ∀ j, j < 64 → w.cell? ⟨0, j, none⟩ = some (.int .u8 (Lib.deBruijn64tab.getD j 0))
section
variable {w w' : World} {g n c n' c' : Nat} {b b' : Bool} {A A' : Option Addr} {e e' : Int}
theorem Tab.lt (h : Tab w) : 0 < w.heap.size := by
 have := h.at_ 0 (by omega)
 rcases Nat.lt_or_ge 0 w.heap.size with hlt | hge
 ·exact hlt
 ·simp [World.cell?, Array.getElem?_eq_none hge] at this
theorem Tab.keep (h : Tab w) (hb : Below w.heap.size w w') : Tab w' := ⟨fun j hj => (hb.cell h.lt).trans (h.at_ j hj)⟩
instance Tab.mv {v w : World} : Mv (Tab v) v w (Tab w) := ⟨fun h hb => Tab.keep h hb⟩
theorem Tab.putD (h : Tab w) (x : Dx w g b A n c e) : Tab (((w.setCell ⟨g, 0, none⟩ (.bool b')).setCell ⟨g, 1, none⟩ (.slice A' n' c')).setCell ⟨g, 2, none⟩ (.int .i64 e')) := ⟨fun j hj => by
 have hj2 := h.at_ j hj
 have e0 : (⟨0, j, none⟩ : Addr) ≠ ⟨g, 0, none⟩ := fun e => by rw [e, x.c0] at hj2; cases hj2
 have e1 : (⟨0, j, none⟩ : Addr) ≠ ⟨g, 1, none⟩ := fun e => by rw [e, x.c1] at hj2; cases hj2
 have e2 : (⟨0, j, none⟩ : Addr) ≠ ⟨g, 2, none⟩ := fun e => by rw [e, x.c2] at hj2; cases hj2
 rw [World.cell?_setCell_other _ _ _ _ e2.symm, World.cell?_setCell_other _ _ _ _ e1.symm, World.cell?_setCell_other _ _ _ _ e0.symm]
 exact hj2⟩
end
def OutD (w : World) (X E : Int) (k : Nat) (e : Ending) (w' : World) : Prop := ∃ A n c, e = .returned (.agg #[.bool (ngB X), .slice A n c, .int .i64 E]) ∧ Zn w' A n c X k ∧ Below w.heap.size w w'
theorem tz_key (x a : Nat) (hx : x < 18446744073709551616) (hx0 : x ≠ 0) (hlow : x &&& (18446744073709551616 - x) = a) :
  IntKind.u64.wrap (bits BinOp.and IntKind.u64 (x : Int) (IntKind.u64.wrap (-(x : Int))) * 285870213051353865) / 288230376151711744 = ((a * 285870213051353865 % 18446744073709551616 / 288230376151711744 : Nat) : Int) := by
 have e1 : IntKind.u64.wrap (-(x : Int)) = ((18446744073709551616 - x : Nat) : Int) := by rw [wrap_u64]; omega
 rw [e1, bits_and_u64_nat x _ hx (by omega), hlow, wrap_u64]
 omega
theorem tz_core (x k idx : Nat) (w : World) (hx0 : ((x : Int) == 0) = false)
  (key : IntKind.u64.wrap (bits BinOp.and IntKind.u64 (x : Int) (IntKind.u64.wrap (-(x : Int))) * 285870213051353865) / 288230376151711744 = (idx : Int))
  (hi : idx < 64) (hk : k < 64) (hcell : w.cell? ⟨0, idx, none⟩ = some (.int .u8 k)) :
  Calls Tryz.prog 163 #[.int .u64 x] w fun e w' => e = .returned (.int .i64 k) ∧ w = w' := by
 go_enter Tryz.func163, Tryz.ntmps163
 go_wp2_with (simp only [key])
 go_ret
 exact ⟨rfl, rfl⟩
theorem TZ_any (x : Int) (w : World) (hx : Lm x) (h0 : x ≠ 0) (hT : Tab w) :
  Calls Tryz.prog 163 #[.int .u64 x] w fun e w' => ∃ t m : Nat, t < 64 ∧ x = ((2 ^ t * (2 * m + 1) : Nat) : Int) ∧ e = .returned (.int .i64 t) ∧ w = w' := by
 have hx2 : 0 ≤ x ∧ x < 18446744073709551616 := by unfold Lm at hx; rw [Wd_eq] at hx; omega
 obtain ⟨N, rfl⟩ : ∃ N : Nat, x = N := ⟨x.toNat, by omega⟩
 have hN0 : N ≠ 0 := by omega
 have hN1 : N < 2 ^ 64 := by omega
 obtain ⟨hlow, hk⟩ := Lib.lowest_bit 64 N hN0 hN1
 obtain ⟨hi, htab⟩ := Lib.deBruijn64_at _ hk
 obtain ⟨m, hm, _⟩ := Lib.ctzFrom_spec 64 N (by omega) hN1
 have hcell := hT.at_ _ hi
 rw [htab] at hcell
 refine (tz_core N _ _ w (by simp; omega) (tz_key N _ (by omega) hN0 hlow) hi hk hcell).mono ?_
 rintro e w' ⟨rfl, rfl⟩
 refine ⟨Lib.ctz 64 N, m, hk, ?_, rfl, rfl⟩
 have : Lib.ctz 64 N = Lib.ctzFrom 64 N := by unfold Lib.ctz; rw [if_neg hN0]
 rw [this, ← hm]
theorem limit_any (n : Int) (w : World) : Calls Tryz.prog 166 #[.int .i64 n] w fun e w' => e = .returned (.int .i64 (li n)) ∧ w = w' := by
 unfold li
 go_enter Tryz.func166, Tryz.ntmps166
 go_wp2
 all_goals go_ret
 all_goals exact ⟨ret_i64 (by omega), rfl⟩
def RePost (w : World) (X e : Int) (k : Nat) (en : Ending) (w' : World) : Prop := ∃ b A n c, en = .returned (.agg #[.bool b, .slice A n c, .int .i64 (cE e)]) ∧ Zr w' b A n c (cM X e) k ∧ Below w.heap.size w w'
end
section
open Go.RowKit
theorem read_any (h : Zr w b A n c X j) :
  Calls Tryz.prog 116 #[.agg #[.bool b, .slice A n c, .int .i64 e]] w (RePost w X e j) := by
 by_cases hr : -4000 ≤ e ∧ e ≤ 4000
 ·obtain ⟨hM, hE⟩ := c_yes (X := X) hr
  have HM := Lib.hid hM; have HE := Lib.hid hE; clear hM hE
  have h1 : ¬ e < -4000 := by omega
  have h2 : ¬ 4000 < e := by omega
  go_enter Tryz.func116, Tryz.ntmps116
  go_wp2
  refine bodyPost_ret (v := .agg #[.bool b, .slice A n c, .int .i64 e]) (by simp [results, Tryz.results116, go_sem]) rfl ?_
  exact ⟨_, _, _, _, by rw [HE.out], by rw [HM.out]; exact h.keep (below_alloc2 _ _ _), below_alloc2 _ _ _⟩
 ·obtain ⟨hM, hE⟩ := c_no (X := X) hr
  have HM := Lib.hid hM; have HE := Lib.hid hE; clear hM hE
  have hfin : ∀ w' : World, Zr w' false none 0 0 (cM X e) j := fun w' => ⟨[], Rd.nil, by rw [HM.out]; rfl, Nat.zero_le _⟩
  have HFIN := Lib.hid hfin; clear hfin
  rcases (show e < -4000 ∨ (¬ e < -4000 ∧ 4000 < e) by omega) with h1 | ⟨h1, h2⟩
  ·skip
   go_enter Tryz.func116, Tryz.ntmps116
   go_wp2
   refine bodyPost_ret (v := .agg #[.bool false, .slice none 0 0, .int .i64 0]) (by simp [results, Tryz.results116, go_sem]) rfl ?_
   exact ⟨_, _, _, _, by rw [HE.out], HFIN.out _, below_alloc2 _ _ _⟩
  ·skip
   go_enter Tryz.func116, Tryz.ntmps116
   go_wp2
   refine bodyPost_ret (v := .agg #[.bool false, .slice none 0 0, .int .i64 0]) (by simp [results, Tryz.results116, go_sem]) rfl ?_
   exact ⟨_, _, _, _, by rw [HE.out], HFIN.out _, below_alloc2 _ _ _⟩
end
section
open Go.RowKit
theorem Zn.nil0 (w : World) (k : Nat) : Zn w none 0 0 0 k := ⟨by show Rd w w.heap.size none 0 0 (dg Wd 0); rw [dg_zero]; exact Rd.nil, Nat.zero_le _⟩
theorem OutD.nil0 {w' : World} (k : Nat) (h : X = 0) (hb : Below w.heap.size w w') : OutD w (od X) (nE X e) k (.returned (.agg #[.bool false, .slice none 0 0, .int .i64 0])) w' := by
 subst h
 exact ⟨_, _, _, rfl, Zn.nil0 _ _, hb⟩
theorem zi_nat (b : Bool) (N M : Nat) : zi b (N * M) = zi b N * (M : Int) := by
 unfold zi; split
 ·rw [Int.natCast_mul, Int.neg_mul]
 ·rw [Int.natCast_mul]
theorem low_limb {l : List Int} (hl : Lim Wd l) {k t m : Nat} (hk : k < l.length) (h0 : vl Wd (l.take k) = 0) (hx : l[k] = ((2 ^ t * (2 * m + 1) : Nat) : Int)) (ht : t < 64) (b : Bool) :
  ∃ q : Int, q % 2 = 1 ∧ zi b (vl Wd (l.drop k)) = q * 2 ^ t ∧ zi b (vl Wd l) = q * 2 ^ (64 * k + t) := by
 have e1 := vl_split Wd l k (by omega)
 have e2 := vl_drop_step Wd l k hk
 rw [hx, Int.toNat_natCast] at e2
 generalize vl Wd (l.drop (k + 1)) = r at *
 have eW : Wd = 2 ^ t * (2 * 2 ^ (63 - t)) := by
  rw [← Nat.pow_succ', ← Nat.pow_add, show t + (63 - t + 1) = 64 by omega]; rfl
 have e3 : vl Wd (l.drop k) = (2 * (m + 2 ^ (63 - t) * r) + 1) * 2 ^ t := by
  rw [e2, eW]
  generalize 2 ^ t = p
  generalize 2 ^ (63 - t) = s
  rw [Nat.mul_assoc p, ← Nat.mul_add, Nat.mul_comm p]
  congr 1
  rw [Nat.mul_add, Nat.mul_assoc]; omega
 refine ⟨zi b (2 * (m + 2 ^ (63 - t) * r) + 1), ?_, ?_, ?_⟩
 ·unfold zi; split <;> omega
 ·rw [e3, zi_nat, pow_cast]
 ·rw [e1, h0, Nat.zero_add, e3, Nat.mul_comm, Nat.mul_assoc, zi_nat, pow_cast, show Wd = 2 ^ 64 by rfl, ← Nat.pow_mul, ← Nat.pow_add, Nat.add_comm t]
theorem exact_shr : q * 2 ^ t / 2 ^ t = q := Int.mul_ediv_cancel _ (by have := two_pow_pos t; omega)
theorem sc_nat (h : t ≤ 8192) : sc (t : Int) = t := by unfold sc; omega
theorem result_any (h : Zr w b A n c X j) (hT : Tab w) (e : Int) (he : -100000 ≤ e ∧ e ≤ 100000) (k : Nat) (hk : j + 1 ≤ k) (hj : k ≤ 1000000) :
  Calls Tryz.prog 117 #[.agg #[.bool b, .slice A n c], .int .i64 e] w (OutD w (od X) (nE X e) k) := by
 have hsg := sgnI_is X
 by_cases hX : X = 0
 ·have hs0 := sgnI_eq0.2 hX
  have HS := Lib.hid hs0; have HX := Lib.hid hX; clear hs0 hX hsg
  go_enter Tryz.func117, Tryz.ntmps117
  go_wp2_with fail
  have x_m : Bx (w.alloc (.cells #[.bool b, .slice A n c] 24)) (w.heap.size) b A n c := by have := Bx.new w b A n c; simpa using this
  replace x_m := x_m.alloc (.cells #[.bool false, .slice none 0 0, .int .i64 0] 55)
  have x_r : Dx ((w.alloc (.cells #[.bool b, .slice A n c] 24)).alloc (.cells #[.bool false, .slice none 0 0, .int .i64 0] 55)) (w.heap.size + 1) false none 0 0 0 := by have := Dx.new (w.alloc (.cells #[.bool b, .slice A n c] 24)) false none 0 0 0; simpa using this
  have hb : Below w.heap.size w ((w.alloc (.cells #[.bool b, .slice A n c] 24)).alloc (.cells #[.bool false, .slice none 0 0, .int .i64 0] 55)) := (Below.alloc (Below.alloc (Below.refl w.heap.size w) (by simp) (.cells #[.bool b, .slice A n c] 24)) (by simp) (.cells #[.bool false, .slice none 0 0, .int .i64 0] 55))
  generalize (w.alloc (.cells #[.bool b, .slice A n c] 24)).alloc (.cells #[.bool false, .slice none 0 0, .int .i64 0] 55) = v1 at *
  obtain ⟨h, hT⟩ := mv2 hb h hT
  have q_m := x_m.al
  have q_r := x_r.al
  go_wp2_with fail
  with_reducible refine (ZSign_any h (by omega)).mono ?_
  rintro e v2 ⟨rfl, hb1⟩
  obtain ⟨x_m, x_r, h, hT⟩ := mv4 hb1 x_m x_r h hT
  replace hb := bthen hb hb1
  clear hb1
  replace q_m := x_m.al
  replace q_r := x_r.al
  rw [HS.out]
  go_wp2
  replace x_m := x_m.asideD (b' := false) (A' := none) (n' := 0) (c' := 0) (e' := 0) (g := w.heap.size + 1) (by omega)
  replace h := h.putD (b' := false) (A' := none) (n' := 0) (c' := 0) (e' := 0) x_r
  replace hT := hT.putD (b' := false) (A' := none) (n' := 0) (c' := 0) (e' := 0) x_r
  replace hb := put_belowD (g := w.heap.size + 1) hb (by omega) (.bool false) (.slice none 0 0) (.int .i64 0)
  replace x_r := x_r.put false none 0 0 0
  clear q_m q_r
  generalize ((v2.setCell ⟨w.heap.size + 1, 0, none⟩ (.bool false)).setCell ⟨w.heap.size + 1, 1, none⟩ (.slice none 0 0)).setCell ⟨w.heap.size + 1, 2, none⟩ (.int .i64 0) = v3 at *
  have q_m := x_m.al
  have q_r := x_r.al
  refine bodyPost_ret (v := .agg #[.bool false, .slice none 0 0, .int .i64 0]) (by simp [results, Tryz.results117, go_sem, q_r]) rfl ?_
  exact OutD.nil0 k HX.out hb
 ·have hs0 : (sgnI X == 0) = false := by rw [beq_eq_false_iff_ne]; exact fun h0 => hX (sgnI_eq0.1 h0)
  obtain ⟨l, hr, hz, hn⟩ := id h
  have hlen := hr.len
  have hN : vl Wd l ≠ 0 := fun h0 => hX (by rw [← hz, h0]; cases b <;> rfl)
  have hn0 : 0 < n := by
   rcases Nat.eq_zero_or_pos n with h0 | h0
   ·exact absurd (by rw [List.eq_nil_of_length_eq_zero (hlen.trans h0)]; rfl) hN
   ·exact h0
  have hcap := hr.cap; have hbig := hr.big; have hlim := hr.lim
  have HLEN := Lib.hid hlen; have HN := Lib.hid hN; have HX := Lib.hid hX; have HZ := Lib.hid hz
  clear hlen hN hX hz
  go_enter Tryz.func117, Tryz.ntmps117
  go_wp2_with fail
  have x_m : Bx (w.alloc (.cells #[.bool b, .slice A n c] 24)) (w.heap.size) b A n c := by have := Bx.new w b A n c; simpa using this
  replace x_m := x_m.alloc (.cells #[.bool false, .slice none 0 0, .int .i64 0] 55)
  have x_r : Dx ((w.alloc (.cells #[.bool b, .slice A n c] 24)).alloc (.cells #[.bool false, .slice none 0 0, .int .i64 0] 55)) (w.heap.size + 1) false none 0 0 0 := by have := Dx.new (w.alloc (.cells #[.bool b, .slice A n c] 24)) false none 0 0 0; simpa using this
  have hb : Below w.heap.size w ((w.alloc (.cells #[.bool b, .slice A n c] 24)).alloc (.cells #[.bool false, .slice none 0 0, .int .i64 0] 55)) := (Below.alloc (Below.alloc (Below.refl w.heap.size w) (by simp) (.cells #[.bool b, .slice A n c] 24)) (by simp) (.cells #[.bool false, .slice none 0 0, .int .i64 0] 55))
  generalize (w.alloc (.cells #[.bool b, .slice A n c] 24)).alloc (.cells #[.bool false, .slice none 0 0, .int .i64 0] 55) = v1 at *
  obtain ⟨h, hT⟩ := mv2 hb h hT
  replace hr := hr.go hb
  have q_m := x_m.al
  have q_r := x_r.al
  go_wp2_with fail
  with_reducible refine (ZSign_any h (by omega)).mono ?_
  rintro e v2 ⟨rfl, hb1⟩
  obtain ⟨x_m, x_r, h, hT⟩ := mv4 hb1 x_m x_r h hT
  replace hr := hr.go hb1
  replace hb := bthen hb hb1
  clear hb1
  replace q_m := x_m.al
  replace q_r := x_r.al
  generalize sgnI X = sg at *
  clear h
  obtain ⟨bl0, of0, rfl, hbl, hcell⟩ := hr.at_ hn0
  have HCELL := Lib.hid hcell; clear hcell
  go_wp2_with fail
  go_loop [5] (fun i => ∃ q : Nat, q < n ∧ i = .int .i64 q ∧ Hid (vl Wd (l.take q) = 0)) (fun i => n - (intOf i).toNat)
  case atStart => exact ⟨0, hn0, rfl, Lib.hid rfl⟩
  case round =>
   obtain ⟨q, hq, rfl, HQ⟩ := hrel
   have hql : q < l.length := by have := HLEN.out; omega
   have hcq := HCELL.out q hql
   have hts := vl_take_succ Wd l q hql
   have hxl : Lm l[q] := hlim.get hql
   have hlow := fun t m => @low_limb l hlim q t m hql HQ.out
   have HTS := Lib.hid hts; have HLOW := Lib.hid hlow; clear hts hlow
   generalize hxe : l[q] = x at *
   have HXE := Lib.hid hxe; clear hxe
   by_cases hx0 : x = 0
   ·subst hx0
    have hqq : vl Wd (l.take (q + 1)) = 0 := by have := HTS.out; rw [HQ.out] at this; simpa using this
    have hq1 : q + 1 < n := by
     rcases Nat.lt_or_ge (q + 1) n with h1 | h1
     ·exact h1
     ·exact absurd (by rw [List.take_of_length_le (by have := HLEN.out; omega)] at hqq; exact hqq) HN.out
    have HQQ := Lib.hid hqq; clear hqq
    go_wp2
    go_round
    case rel => exact ⟨q + 1, hq1, by go_num, HQQ⟩
    case measure => simp [intOf]; omega
   ·have hxb : (x == 0) = false := by rw [beq_eq_false_iff_ne]; exact hx0
    go_wp2_with fail
    with_reducible refine (TZ_any x _ hxl hx0 hT).mono ?_
    rintro e9 w9 ⟨t, m, ht, hxt, rfl, rfl⟩
    obtain ⟨p, hp, hP, hXp⟩ := HLOW.out t m hxt ht b
    rw [HZ.out] at hXp
    obtain ⟨hz1, hz2⟩ := nf_unique hXp hp
    have hnE : nE X e = e + (64 * q + t : Nat) := by rw [nE_ne HX.out, hz1]
    have HZ2 := Lib.hid hz2; have HNE := Lib.hid hnE
    clear hz1 hz2 hnE hXp
    obtain ⟨bl1, of1, he1, hd⟩ := hr.drop hq
    injection he1 with he1; injection he1 with he1 he2; subst he1 he2
    have hzd : Zr v2 b (some ⟨bl0, of0 + q, none⟩) (n - q) (c - q) (p * 2 ^ t) j := ⟨_, hd, hP, by omega⟩
    clear hd
    have hqn : q ≤ n := by omega
    have hqc : q ≤ c := by omega
    go_wp2_with fail
    go_region_held3 (fun w' => w'.cell? ⟨w.heap.size, 0, none⟩ = some (.bool b) ∧ w'.cell? ⟨w.heap.size, 1, none⟩ = some (.slice (some ⟨bl0, of0, none⟩) n c))
     (first | (with_reducible exact ⟨x_m.c0, x_m.c1⟩) | (with_reducible exact ⟨(x_m.aside (by omega)).c0, (x_m.aside (by omega)).c1⟩) | (with_reducible exact ⟨((x_m.aside (by omega)).aside (by omega)).c0, ((x_m.aside (by omega)).aside (by omega)).c1⟩) | (with_reducible exact ⟨(x_m.asideD (by omega)).c0, (x_m.asideD (by omega)).c1⟩) | (with_reducible exact ⟨((x_m.asideD (by omega)).asideD (by omega)).c0, ((x_m.asideD (by omega)).asideD (by omega)).c1⟩) | go_keep)
     (first | fail)
    go_wp2_with fail
    have hsc := sc_nat (t := t) (by omega)
    have HSC := Lib.hid hsc; clear hsc
    have hb1 := below_drew (below_alloc v2 (.cells #[.bool b, .slice (some ⟨bl0, of0 + q, none⟩) (n - q) (c - q)] 24))
    have l_m_s := x_m.lt
    have l_r_s := x_r.lt
    have x_s := (Bx.new v2 b (some ⟨bl0, of0 + q, none⟩) (n - q) (c - q)).drew
    have e_s : w.heap.size ≤ v2.heap.size := hb.size
    obtain ⟨x_m, x_r, hT⟩ := mv3 hb1 x_m x_r hT
    replace hr := hr.go hb1
    replace hzd := hzd.keep hb1
    replace hb := bthen hb hb1
    clear hb1
    replace q_m := x_m.al
    replace q_r := x_r.al
    clear q_m q_r
    generalize (v2.alloc (.cells #[.bool b, .slice (some ⟨bl0, of0 + q, none⟩) (n - q) (c - q)] 24)).drew = v3 at *
    have q_m := x_m.al
    have q_r := x_r.al
    have q_s := x_s.al
    skip
    with_reducible refine (ZShr_any hzd (t : Int) k hk hj).mono ?_
    rintro e v4 ⟨A3, n3, c3, rfl, z1, hb1⟩
    obtain ⟨x_m, x_r, x_s, hT⟩ := mv4 hb1 x_m x_r x_s hT
    replace hr := hr.go hb1
    replace hzd := hzd.keep hb1
    replace hb := bthen hb hb1
    clear hb1
    replace q_m := x_m.al
    replace q_r := x_r.al
    replace q_s := x_s.al
    rw [HSC.out, exact_shr] at z1 ⊢
    have e3 : (e + q * 64 + t : Int) = e + (64 * q + t : Nat) := by omega
    have HE3 := Lib.hid e3; clear e3
    go_wp2
    replace x_m := x_m.asideD (b' := (ngB p)) (A' := A3) (n' := n3) (c' := c3) (e' := (e + q * 64 + t)) (g := w.heap.size + 1) (by omega)
    replace x_s := x_s.asideD (b' := (ngB p)) (A' := A3) (n' := n3) (c' := c3) (e' := (e + q * 64 + t)) (g := w.heap.size + 1) (by omega)
    replace hT := hT.putD (b' := (ngB p)) (A' := A3) (n' := n3) (c' := c3) (e' := (e + q * 64 + t)) x_r
    replace hr := hr.sputD (b' := (ngB p)) (A' := A3) (n' := n3) (c' := c3) (e' := (e + q * 64 + t)) x_r
    replace hzd := hzd.putD (b' := (ngB p)) (A' := A3) (n' := n3) (c' := c3) (e' := (e + q * 64 + t)) x_r
    replace z1 := z1.putD (b' := (ngB p)) (A' := A3) (n' := n3) (c' := c3) (e' := (e + q * 64 + t)) x_r
    replace hb := put_belowD (g := w.heap.size + 1) hb (by omega) (.bool (ngB p)) (.slice A3 n3 c3) (.int .i64 (e + q * 64 + t))
    replace x_r := x_r.put (ngB p) A3 n3 c3 (e + q * 64 + t)
    clear q_m q_r q_s
    generalize ((v4.setCell ⟨w.heap.size + 1, 0, none⟩ (.bool (ngB p))).setCell ⟨w.heap.size + 1, 1, none⟩ (.slice A3 n3 c3)).setCell ⟨w.heap.size + 1, 2, none⟩ (.int .i64 (e + q * 64 + t)) = v5 at *
    have q_m := x_m.al
    have q_r := x_r.al
    have q_s := x_s.al
    refine bodyPost_ret (v := .agg #[.bool (ngB p), .slice A3 n3 c3, .int .i64 (e + q * 64 + t)]) (by simp [results, Tryz.results117, go_sem, q_r]) rfl ?_
    exact ⟨_, _, _, by rw [HZ2.out, HNE.out, ← HE3.out], by rw [HZ2.out]; exact z1, hb⟩
end
section
open Go.RowKit
theorem limit_bel (n : Int) (w : World) : Calls Tryz.prog 166 #[.int .i64 n] w fun e w' => e = .returned (.int .i64 (li n)) ∧ Below w.heap.size w w' :=
 (limit_any n w).mono fun e w' ⟨h1, h2⟩ => ⟨h1, by rw [← h2]; exact Below.refl _ _⟩
def flI (X n : Int) : Int := if n < 0 then X / 2 ^ (-n).toNat else X * 2 ^ n.toNat
theorem tup_ib {a b : Int} {x y : Bool} (h : a = b) (h2 : x = y) : Ending.returned (.tuple #[.int .i64 a, .bool x]) = .returned (.tuple #[.int .i64 b, .bool y]) := by rw [h, h2]
theorem wrap_in {n : Int} (h0 : -9223372036854775808 ≤ n) (h1 : n ≤ 9223372036854775807) : IntKind.i64.wrap n = n := IntWalk.i64_in _ ⟨h0, h1⟩
theorem sc_toNat {n : Int} (h0 : 0 ≤ n) (h1 : n ≤ 8192) : sc n = n.toNat := by unfold sc; omega
theorem field0 (b : Bool) (A : Option Addr) (n c : Nat) (e : Int) (w : World) : (Instr.field 55 (.agg #[.bool b, .slice A n c, .int .i64 e]) 0).run Tryz.prog w = .ok (.agg #[.bool b, .slice A n c]) w := by
 kernel_rfl
theorem DNorm_any (h : Zr w b A n c X j) (hT : Tab w) (k : Nat) (hk : j + 1 ≤ k) (hj : k ≤ 1000000) :
  Calls Tryz.prog 69 #[.agg #[.bool b, .slice A n c, .int .i64 e]] w (OutD w (od (cM X e)) (nE (cM X e) (cE e)) k) := by
 have hc := cE_in e
 go_enter Tryz.func69, Tryz.ntmps69
 go_wp2_with fail
 have x_a : Dx (w.alloc (.cells #[.bool b, .slice A n c, .int .i64 e] 55)) (w.heap.size) b A n c e := by have := Dx.new w b A n c e; simpa using this
 replace x_a := x_a.alloc (.cells #[.bool false, .slice none 0 0, .int .i64 0] 55)
 have x_r : Dx ((w.alloc (.cells #[.bool b, .slice A n c, .int .i64 e] 55)).alloc (.cells #[.bool false, .slice none 0 0, .int .i64 0] 55)) (w.heap.size + 1) false none 0 0 0 := by have := Dx.new (w.alloc (.cells #[.bool b, .slice A n c, .int .i64 e] 55)) false none 0 0 0; simpa using this
 have hb : Below w.heap.size w ((w.alloc (.cells #[.bool b, .slice A n c, .int .i64 e] 55)).alloc (.cells #[.bool false, .slice none 0 0, .int .i64 0] 55)) := (Below.alloc (Below.alloc (Below.refl w.heap.size w) (by simp) (.cells #[.bool b, .slice A n c, .int .i64 e] 55)) (by simp) (.cells #[.bool false, .slice none 0 0, .int .i64 0] 55))
 generalize (w.alloc (.cells #[.bool b, .slice A n c, .int .i64 e] 55)).alloc (.cells #[.bool false, .slice none 0 0, .int .i64 0] 55) = v1 at *
 obtain ⟨h, hT⟩ := mv2 hb h hT
 have q_a := x_a.al
 have q_r := x_r.al
 go_wp2_with fail
 with_reducible refine (read_any h).mono ?_
 rintro e v2 ⟨b1, A1, n1, c1, rfl, zc, hb1⟩
 obtain ⟨x_a, x_r, h, hT⟩ := mv4 hb1 x_a x_r h hT
 replace hb := bthen hb hb1
 clear hb1
 replace q_a := x_a.al
 replace q_r := x_r.al
 clear h
 go_wp2_with fail
 replace x_r := x_r.asideD (b' := b1) (A' := A1) (n' := n1) (c' := c1) (e' := (cE e)) (g := w.heap.size) (by omega)
 replace hT := hT.putD (b' := b1) (A' := A1) (n' := n1) (c' := c1) (e' := (cE e)) x_a
 replace zc := zc.putD (b' := b1) (A' := A1) (n' := n1) (c' := c1) (e' := (cE e)) x_a
 replace hb := put_belowD (g := w.heap.size) hb (by omega) (.bool b1) (.slice A1 n1 c1) (.int .i64 (cE e))
 replace x_a := x_a.put b1 A1 n1 c1 (cE e)
 clear q_a q_r
 generalize ((v2.setCell ⟨w.heap.size, 0, none⟩ (.bool b1)).setCell ⟨w.heap.size, 1, none⟩ (.slice A1 n1 c1)).setCell ⟨w.heap.size, 2, none⟩ (.int .i64 (cE e)) = v3 at *
 have q_a := x_a.al
 have q_r := x_r.al
 with_reducible refine (result_any zc hT (cE e) (by omega) k hk hj).mono ?_
 rintro e v4 ⟨A2, n2, c2, rfl, z1, hb1⟩
 obtain ⟨x_a, x_r, hT, zc⟩ := mv4 hb1 x_a x_r hT zc
 replace hb := bthen hb hb1
 clear hb1
 replace q_a := x_a.al
 replace q_r := x_r.al
 go_wp2
 replace x_a := x_a.asideD (b' := (ngB (od (cM X e)))) (A' := A2) (n' := n2) (c' := c2) (e' := (nE (cM X e) (cE e))) (g := w.heap.size + 1) (by omega)
 replace hT := hT.putD (b' := (ngB (od (cM X e)))) (A' := A2) (n' := n2) (c' := c2) (e' := (nE (cM X e) (cE e))) x_r
 replace zc := zc.putD (b' := (ngB (od (cM X e)))) (A' := A2) (n' := n2) (c' := c2) (e' := (nE (cM X e) (cE e))) x_r
 replace z1 := z1.putD (b' := (ngB (od (cM X e)))) (A' := A2) (n' := n2) (c' := c2) (e' := (nE (cM X e) (cE e))) x_r
 replace hb := put_belowD (g := w.heap.size + 1) hb (by omega) (.bool (ngB (od (cM X e)))) (.slice A2 n2 c2) (.int .i64 (nE (cM X e) (cE e)))
 replace x_r := x_r.put (ngB (od (cM X e))) A2 n2 c2 (nE (cM X e) (cE e))
 clear q_a q_r
 generalize ((v4.setCell ⟨w.heap.size + 1, 0, none⟩ (.bool (ngB (od (cM X e))))).setCell ⟨w.heap.size + 1, 1, none⟩ (.slice A2 n2 c2)).setCell ⟨w.heap.size + 1, 2, none⟩ (.int .i64 (nE (cM X e) (cE e))) = v5 at *
 have q_a := x_a.al
 have q_r := x_r.al
 refine bodyPost_ret (v := .agg #[.bool (ngB (od (cM X e))), .slice A2 n2 c2, .int .i64 (nE (cM X e) (cE e))]) (by simp [results, Tryz.results69, go_sem, q_r]) rfl ?_
 exact ⟨_, _, _, rfl, z1, hb⟩
theorem DOf_any (h : Zr w b A n c X j) (hT : Tab w) (k : Nat) (hk : j + 1 ≤ k) (hj : k ≤ 1000000) :
  Calls Tryz.prog 28 #[.agg #[.bool b, .slice A n c], .int .i64 e] w (OutD w (od (cM X e)) (nE (cM X e) (cE e)) k) := by
 go_enter Tryz.func28, Tryz.ntmps28
 go_wp2_with fail
 have x_m : Bx (w.alloc (.cells #[.bool b, .slice A n c] 24)) (w.heap.size) b A n c := by have := Bx.new w b A n c; simpa using this
 replace x_m := x_m.alloc (.cells #[.bool false, .slice none 0 0, .int .i64 0] 55)
 have x_r : Dx ((w.alloc (.cells #[.bool b, .slice A n c] 24)).alloc (.cells #[.bool false, .slice none 0 0, .int .i64 0] 55)) (w.heap.size + 1) false none 0 0 0 := by have := Dx.new (w.alloc (.cells #[.bool b, .slice A n c] 24)) false none 0 0 0; simpa using this
 have hb : Below w.heap.size w ((w.alloc (.cells #[.bool b, .slice A n c] 24)).alloc (.cells #[.bool false, .slice none 0 0, .int .i64 0] 55)) := (Below.alloc (Below.alloc (Below.refl w.heap.size w) (by simp) (.cells #[.bool b, .slice A n c] 24)) (by simp) (.cells #[.bool false, .slice none 0 0, .int .i64 0] 55))
 generalize (w.alloc (.cells #[.bool b, .slice A n c] 24)).alloc (.cells #[.bool false, .slice none 0 0, .int .i64 0] 55) = v1 at *
 obtain ⟨h, hT⟩ := mv2 hb h hT
 have q_m := x_m.al
 have q_r := x_r.al
 go_wp2_with fail
 with_reducible refine (DNorm_any h hT k hk hj).mono ?_
 rintro e v2 ⟨A2, n2, c2, rfl, z1, hb1⟩
 obtain ⟨x_m, x_r, h, hT⟩ := mv4 hb1 x_m x_r h hT
 replace hb := bthen hb hb1
 clear hb1
 replace q_m := x_m.al
 replace q_r := x_r.al
 go_wp2
 replace x_m := x_m.asideD (b' := (ngB (od (cM X e)))) (A' := A2) (n' := n2) (c' := c2) (e' := (nE (cM X e) (cE e))) (g := w.heap.size + 1) (by omega)
 replace h := h.putD (b' := (ngB (od (cM X e)))) (A' := A2) (n' := n2) (c' := c2) (e' := (nE (cM X e) (cE e))) x_r
 replace hT := hT.putD (b' := (ngB (od (cM X e)))) (A' := A2) (n' := n2) (c' := c2) (e' := (nE (cM X e) (cE e))) x_r
 replace z1 := z1.putD (b' := (ngB (od (cM X e)))) (A' := A2) (n' := n2) (c' := c2) (e' := (nE (cM X e) (cE e))) x_r
 replace hb := put_belowD (g := w.heap.size + 1) hb (by omega) (.bool (ngB (od (cM X e)))) (.slice A2 n2 c2) (.int .i64 (nE (cM X e) (cE e)))
 replace x_r := x_r.put (ngB (od (cM X e))) A2 n2 c2 (nE (cM X e) (cE e))
 clear q_m q_r
 generalize ((v2.setCell ⟨w.heap.size + 1, 0, none⟩ (.bool (ngB (od (cM X e))))).setCell ⟨w.heap.size + 1, 1, none⟩ (.slice A2 n2 c2)).setCell ⟨w.heap.size + 1, 2, none⟩ (.int .i64 (nE (cM X e) (cE e))) = v3 at *
 have q_m := x_m.al
 have q_r := x_r.al
 refine bodyPost_ret (v := .agg #[.bool (ngB (od (cM X e))), .slice A2 n2 c2, .int .i64 (nE (cM X e) (cE e))]) (by simp [results, Tryz.results28, go_sem, q_r]) rfl ?_
 exact ⟨_, _, _, rfl, z1, hb⟩
theorem DSign_any (h : Zr w b A n c X j) (hj : j ≤ 1000000) :
  Calls Tryz.prog 252 #[.agg #[.bool b, .slice A n c, .int .i64 e]] w fun en w' => en = .returned (.int .i64 (sgnI (cM X e))) ∧ Below w.heap.size w w' := by
 go_enter Tryz.func252, Tryz.ntmps252
 go_wp2_with fail
 have x_a : Dx (w.alloc (.cells #[.bool b, .slice A n c, .int .i64 e] 55)) (w.heap.size) b A n c e := by have := Dx.new w b A n c e; simpa using this
 have hb : Below w.heap.size w (w.alloc (.cells #[.bool b, .slice A n c, .int .i64 e] 55)) := (Below.alloc (Below.refl w.heap.size w) (by simp) (.cells #[.bool b, .slice A n c, .int .i64 e] 55))
 generalize w.alloc (.cells #[.bool b, .slice A n c, .int .i64 e] 55) = v1 at *
 replace h := h.keep hb
 have q_a := x_a.al
 go_wp2_with fail
 with_reducible refine (read_any h).mono ?_
 rintro e v2 ⟨b1, A1, n1, c1, rfl, zc, hb1⟩
 obtain ⟨x_a, h⟩ := mv2 hb1 x_a h
 replace hb := bthen hb hb1
 clear hb1
 replace q_a := x_a.al
 clear h
 have hfl := field0 b1 A1 n1 c1 (cE e) v2
 go_wp2_with fail
 with_reducible refine (ZSign_any zc hj).mono ?_
 rintro e v3 ⟨rfl, hb1⟩
 obtain ⟨x_a, zc⟩ := mv2 hb1 x_a zc
 replace hb := bthen hb hb1
 clear hb1
 replace q_a := x_a.al
 go_wp2
 go_ret
 exact ⟨rfl, hb⟩
theorem DShift_any (h : Zr w b A n c X j) (q : Int) (hT : Tab w) (k : Nat) (hk : j + 1 ≤ k) (hj : k ≤ 1000000) :
  Calls Tryz.prog 256 #[.agg #[.bool b, .slice A n c, .int .i64 e], .int .i64 q] w (OutD w (od (cM X e)) (nE (cM X e) (cE e + li q)) k) := by
 have hc := cE_in e
 have hl := li_in q
 have hwr : IntKind.i64.wrap (cE e + li q) = cE e + li q := wrap_in (by omega) (by omega)
 go_enter Tryz.func256, Tryz.ntmps256
 go_wp2_with fail
 have x_a : Dx (w.alloc (.cells #[.bool b, .slice A n c, .int .i64 e] 55)) (w.heap.size) b A n c e := by have := Dx.new w b A n c e; simpa using this
 replace x_a := x_a.alloc (.cells #[.bool false, .slice none 0 0, .int .i64 0] 55)
 have x_r : Dx ((w.alloc (.cells #[.bool b, .slice A n c, .int .i64 e] 55)).alloc (.cells #[.bool false, .slice none 0 0, .int .i64 0] 55)) (w.heap.size + 1) false none 0 0 0 := by have := Dx.new (w.alloc (.cells #[.bool b, .slice A n c, .int .i64 e] 55)) false none 0 0 0; simpa using this
 have hb : Below w.heap.size w ((w.alloc (.cells #[.bool b, .slice A n c, .int .i64 e] 55)).alloc (.cells #[.bool false, .slice none 0 0, .int .i64 0] 55)) := (Below.alloc (Below.alloc (Below.refl w.heap.size w) (by simp) (.cells #[.bool b, .slice A n c, .int .i64 e] 55)) (by simp) (.cells #[.bool false, .slice none 0 0, .int .i64 0] 55))
 generalize (w.alloc (.cells #[.bool b, .slice A n c, .int .i64 e] 55)).alloc (.cells #[.bool false, .slice none 0 0, .int .i64 0] 55) = v1 at *
 obtain ⟨h, hT⟩ := mv2 hb h hT
 have q_a := x_a.al
 have q_r := x_r.al
 go_wp2_with fail
 with_reducible refine (read_any h).mono ?_
 rintro e v2 ⟨b1, A1, n1, c1, rfl, zc, hb1⟩
 obtain ⟨x_a, x_r, h, hT⟩ := mv4 hb1 x_a x_r h hT
 replace hb := bthen hb hb1
 clear hb1
 replace q_a := x_a.al
 replace q_r := x_r.al
 clear h
 go_wp2_with fail
 replace x_r := x_r.asideD (b' := b1) (A' := A1) (n' := n1) (c' := c1) (e' := (cE e)) (g := w.heap.size) (by omega)
 replace hT := hT.putD (b' := b1) (A' := A1) (n' := n1) (c' := c1) (e' := (cE e)) x_a
 replace zc := zc.putD (b' := b1) (A' := A1) (n' := n1) (c' := c1) (e' := (cE e)) x_a
 replace hb := put_belowD (g := w.heap.size) hb (by omega) (.bool b1) (.slice A1 n1 c1) (.int .i64 (cE e))
 replace x_a := x_a.put b1 A1 n1 c1 (cE e)
 clear q_a q_r
 generalize ((v2.setCell ⟨w.heap.size, 0, none⟩ (.bool b1)).setCell ⟨w.heap.size, 1, none⟩ (.slice A1 n1 c1)).setCell ⟨w.heap.size, 2, none⟩ (.int .i64 (cE e)) = v3 at *
 have q_a := x_a.al
 have q_r := x_r.al
 go_region_held3 (fun w' => w'.cell? ⟨w.heap.size, 0, none⟩ = some (.bool b1) ∧ w'.cell? ⟨w.heap.size, 1, none⟩ = some (.slice A1 n1 c1) ∧ w'.cell? ⟨w.heap.size, 2, none⟩ = some (.int .i64 (cE e)))
  (first | (with_reducible exact ⟨x_a.c0, x_a.c1, x_a.c2⟩) | (with_reducible exact ⟨(x_a.aside (by omega)).c0, (x_a.aside (by omega)).c1, (x_a.aside (by omega)).c2⟩) | (with_reducible exact ⟨((x_a.aside (by omega)).aside (by omega)).c0, ((x_a.aside (by omega)).aside (by omega)).c1, ((x_a.aside (by omega)).aside (by omega)).c2⟩) | (with_reducible exact ⟨(x_a.asideD (by omega)).c0, (x_a.asideD (by omega)).c1, (x_a.asideD (by omega)).c2⟩) | (with_reducible exact ⟨((x_a.asideD (by omega)).asideD (by omega)).c0, ((x_a.asideD (by omega)).asideD (by omega)).c1, ((x_a.asideD (by omega)).asideD (by omega)).c2⟩) | go_keep)
  (first | (go_at_call 166; (with_reducible refine (limit_bel q _).mono ?_); rintro e v4 ⟨rfl, hb1⟩; replace hb1 := undrew hb1; obtain ⟨x_a, x_r, hT, zc⟩ := mv4 hb1 x_a x_r hT zc; replace hb := bthen hb hb1; clear hb1; replace q_a := x_a.al; replace q_r := x_r.al) | (go_at_call 117; (with_reducible refine (result_any zc hT (cE e + li q) (by omega) k hk hj).mono ?_); rintro e v5 ⟨A3, n3, c3, rfl, z3, hb1⟩; obtain ⟨x_a, x_r, hT, zc⟩ := mv4 hb1 x_a x_r hT zc; replace hb := bthen hb hb1; clear hb1; replace q_a := x_a.al; replace q_r := x_r.al))
 go_wp2
 replace x_a := x_a.asideD (b' := (ngB (od (cM X e)))) (A' := A3) (n' := n3) (c' := c3) (e' := (nE (cM X e) (cE e + li q))) (g := w.heap.size + 1) (by omega)
 replace hT := hT.putD (b' := (ngB (od (cM X e)))) (A' := A3) (n' := n3) (c' := c3) (e' := (nE (cM X e) (cE e + li q))) x_r
 replace zc := zc.putD (b' := (ngB (od (cM X e)))) (A' := A3) (n' := n3) (c' := c3) (e' := (nE (cM X e) (cE e + li q))) x_r
 replace z3 := z3.putD (b' := (ngB (od (cM X e)))) (A' := A3) (n' := n3) (c' := c3) (e' := (nE (cM X e) (cE e + li q))) x_r
 replace hb := put_belowD (g := w.heap.size + 1) hb (by omega) (.bool (ngB (od (cM X e)))) (.slice A3 n3 c3) (.int .i64 (nE (cM X e) (cE e + li q)))
 replace x_r := x_r.put (ngB (od (cM X e))) A3 n3 c3 (nE (cM X e) (cE e + li q))
 clear q_a q_r
 generalize ((v5.setCell ⟨w.heap.size + 1, 0, none⟩ (.bool (ngB (od (cM X e))))).setCell ⟨w.heap.size + 1, 1, none⟩ (.slice A3 n3 c3)).setCell ⟨w.heap.size + 1, 2, none⟩ (.int .i64 (nE (cM X e) (cE e + li q))) = v6 at *
 have q_a := x_a.al
 have q_r := x_r.al
 refine bodyPost_ret (v := .agg #[.bool (ngB (od (cM X e))), .slice A3 n3 c3, .int .i64 (nE (cM X e) (cE e + li q))]) (by simp [results, Tryz.results256, go_sem, q_r]) rfl ?_
 exact ⟨_, _, _, rfl, z3, hb⟩
def lgI (X e : Int) : Int := if X = 0 then 0 else e + bl X.natAbs - 1
def lgB (X : Int) : Bool := decide (X ≠ 0)
theorem DLog_any (h : Zr w b A n c X j) (hj : j ≤ 1000000) :
  Calls Tryz.prog 68 #[.agg #[.bool b, .slice A n c, .int .i64 e]] w fun en w' => en = .returned (.tuple #[.int .i64 (lgI (cM X e) (cE e)), .bool (lgB (cM X e))]) ∧ Below w.heap.size w w' := by
 have hc := cE_in e
 have hsg := sgnI_is (cM X e)
 by_cases hX : cM X e = 0
 ·have hs0 := sgnI_eq0.2 hX
  have hfin : lgI (cM X e) (cE e) = 0 ∧ lgB (cM X e) = false := ⟨by unfold lgI; rw [if_pos hX], by unfold lgB; simp [hX]⟩
  have HS := Lib.hid hs0; have HF := Lib.hid hfin; clear hs0 hX hsg hfin
  go_enter Tryz.func68, Tryz.ntmps68
  go_wp2_with fail
  have x_a : Dx (w.alloc (.cells #[.bool b, .slice A n c, .int .i64 e] 55)) (w.heap.size) b A n c e := by have := Dx.new w b A n c e; simpa using this
  have hb : Below w.heap.size w (w.alloc (.cells #[.bool b, .slice A n c, .int .i64 e] 55)) := (Below.alloc (Below.refl w.heap.size w) (by simp) (.cells #[.bool b, .slice A n c, .int .i64 e] 55))
  generalize w.alloc (.cells #[.bool b, .slice A n c, .int .i64 e] 55) = v1 at *
  replace h := h.keep hb
  have q_a := x_a.al
  go_wp2_with fail
  with_reducible refine (read_any h).mono ?_
  rintro e v2 ⟨b1, A1, n1, c1, rfl, zc, hb1⟩
  obtain ⟨x_a, h⟩ := mv2 hb1 x_a h
  replace hb := bthen hb hb1
  clear hb1
  replace q_a := x_a.al
  clear h
  go_wp2_with fail
  replace zc := zc.putD (b' := b1) (A' := A1) (n' := n1) (c' := c1) (e' := (cE e)) x_a
  replace hb := put_belowD (g := w.heap.size) hb (by omega) (.bool b1) (.slice A1 n1 c1) (.int .i64 (cE e))
  replace x_a := x_a.put b1 A1 n1 c1 (cE e)
  clear q_a
  generalize ((v2.setCell ⟨w.heap.size, 0, none⟩ (.bool b1)).setCell ⟨w.heap.size, 1, none⟩ (.slice A1 n1 c1)).setCell ⟨w.heap.size, 2, none⟩ (.int .i64 (cE e)) = v3 at *
  have q_a := x_a.al
  with_reducible refine (ZSign_any zc hj).mono ?_
  rintro e v4 ⟨rfl, hb1⟩
  obtain ⟨x_a, zc⟩ := mv2 hb1 x_a zc
  replace hb := bthen hb hb1
  clear hb1
  replace q_a := x_a.al
  rw [HS.out]
  go_wp2
  go_ret2
  exact ⟨tup_ib HF.out.1.symm HF.out.2.symm, hb⟩
 ·have hs0 : (sgnI (cM X e) == 0) = false := by rw [beq_eq_false_iff_ne]; exact fun h0 => hX (sgnI_eq0.1 h0)
  have hfin : lgI (cM X e) (cE e) = bl (cM X e).natAbs - 1 + cE e ∧ lgB (cM X e) = true := ⟨by unfold lgI; rw [if_neg hX]; omega, by unfold lgB; simp [hX]⟩
  have HF := Lib.hid hfin; clear hX hfin
  go_enter Tryz.func68, Tryz.ntmps68
  go_wp2_with fail
  have x_a : Dx (w.alloc (.cells #[.bool b, .slice A n c, .int .i64 e] 55)) (w.heap.size) b A n c e := by have := Dx.new w b A n c e; simpa using this
  have hb : Below w.heap.size w (w.alloc (.cells #[.bool b, .slice A n c, .int .i64 e] 55)) := (Below.alloc (Below.refl w.heap.size w) (by simp) (.cells #[.bool b, .slice A n c, .int .i64 e] 55))
  generalize w.alloc (.cells #[.bool b, .slice A n c, .int .i64 e] 55) = v1 at *
  replace h := h.keep hb
  have q_a := x_a.al
  go_wp2_with fail
  with_reducible refine (read_any h).mono ?_
  rintro e v2 ⟨b1, A1, n1, c1, rfl, zc, hb1⟩
  obtain ⟨x_a, h⟩ := mv2 hb1 x_a h
  replace hb := bthen hb hb1
  clear hb1
  replace q_a := x_a.al
  clear h
  go_wp2_with fail
  replace zc := zc.putD (b' := b1) (A' := A1) (n' := n1) (c' := c1) (e' := (cE e)) x_a
  replace hb := put_belowD (g := w.heap.size) hb (by omega) (.bool b1) (.slice A1 n1 c1) (.int .i64 (cE e))
  replace x_a := x_a.put b1 A1 n1 c1 (cE e)
  clear q_a
  generalize ((v2.setCell ⟨w.heap.size, 0, none⟩ (.bool b1)).setCell ⟨w.heap.size, 1, none⟩ (.slice A1 n1 c1)).setCell ⟨w.heap.size, 2, none⟩ (.int .i64 (cE e)) = v3 at *
  have q_a := x_a.al
  with_reducible refine (ZSign_any zc hj).mono ?_
  rintro e v4 ⟨rfl, hb1⟩
  obtain ⟨x_a, zc⟩ := mv2 hb1 x_a zc
  replace hb := bthen hb hb1
  clear hb1
  replace q_a := x_a.al
  generalize sgnI (cM X e) = sg at *
  obtain ⟨l9, r9, hz9, hn9⟩ := id zc
  have hbl := bl_bound r9.lim r9.len rfl
  have hna : (cM X e).natAbs = vl Wd l9 := by rw [← hz9, zi_abs]
  rw [← hna] at hbl
  clear r9 hz9 hna
  generalize hbe : bl (cM X e).natAbs = β at *
  have HBE := Lib.hid hbe; clear hbe
  have hw1 : IntKind.i64.wrap ((β : Int) - 1) = β - 1 := wrap_in (by omega) (by omega)
  have hw2 : IntKind.i64.wrap ((β : Int) - 1 + cE e) = β - 1 + cE e := wrap_in (by omega) (by omega)
  go_wp2_with fail
  go_region_held3 (fun w' => w'.cell? ⟨w.heap.size, 0, none⟩ = some (.bool b1) ∧ w'.cell? ⟨w.heap.size, 1, none⟩ = some (.slice A1 n1 c1) ∧ w'.cell? ⟨w.heap.size, 2, none⟩ = some (.int .i64 (cE e)))
   (first | (with_reducible exact ⟨x_a.c0, x_a.c1, x_a.c2⟩) | (with_reducible exact ⟨(x_a.aside (by omega)).c0, (x_a.aside (by omega)).c1, (x_a.aside (by omega)).c2⟩) | (with_reducible exact ⟨((x_a.aside (by omega)).aside (by omega)).c0, ((x_a.aside (by omega)).aside (by omega)).c1, ((x_a.aside (by omega)).aside (by omega)).c2⟩) | (with_reducible exact ⟨(x_a.asideD (by omega)).c0, (x_a.asideD (by omega)).c1, (x_a.asideD (by omega)).c2⟩) | (with_reducible exact ⟨((x_a.asideD (by omega)).asideD (by omega)).c0, ((x_a.asideD (by omega)).asideD (by omega)).c1, ((x_a.asideD (by omega)).asideD (by omega)).c2⟩) | go_keep)
   (first | (go_at_call 44; (with_reducible refine (ZBitLen_any zc.drw).mono ?_); rintro e v5 ⟨rfl, hb1⟩; replace hb1 := undrew hb1; obtain ⟨x_a, zc⟩ := mv2 hb1 x_a zc; replace hb := bthen hb hb1; clear hb1; replace q_a := x_a.al; rw [HBE.out]))
  go_wp2
  go_ret2
  exact ⟨tup_ib HF.out.1.symm HF.out.2.symm, hb⟩
theorem floorShift_any (h : Zr w b A n c X j) (q : Int) (hq : -8000 ≤ q ∧ q ≤ 8000) (k : Nat) (hk : j + 128 ≤ k) (hj : k ≤ 1000000) :
  Calls Tryz.prog 165 #[.agg #[.bool b, .slice A n c], .int .i64 q] w (OutZ w (flI X q) k) := by
 by_cases hq0 : q < 0
 ·have hv : X / 2 ^ sc (-q) = flI X q := by unfold flI; rw [if_pos hq0, sc_toNat (by omega) (by omega)]
  have HV := Lib.hid hv; clear hv
  go_enter Tryz.func165, Tryz.ntmps165
  go_wp2_with fail
  have x_m : Bx (w.alloc (.cells #[.bool b, .slice A n c] 24)) (w.heap.size) b A n c := by have := Bx.new w b A n c; simpa using this
  replace x_m := x_m.alloc (.cells #[.bool false, .slice none 0 0] 24)
  have x_r : Bx ((w.alloc (.cells #[.bool b, .slice A n c] 24)).alloc (.cells #[.bool false, .slice none 0 0] 24)) (w.heap.size + 1) false none 0 0 := by have := Bx.new (w.alloc (.cells #[.bool b, .slice A n c] 24)) false none 0 0; simpa using this
  have hb : Below w.heap.size w ((w.alloc (.cells #[.bool b, .slice A n c] 24)).alloc (.cells #[.bool false, .slice none 0 0] 24)) := (Below.alloc (Below.alloc (Below.refl w.heap.size w) (by simp) (.cells #[.bool b, .slice A n c] 24)) (by simp) (.cells #[.bool false, .slice none 0 0] 24))
  generalize (w.alloc (.cells #[.bool b, .slice A n c] 24)).alloc (.cells #[.bool false, .slice none 0 0] 24) = v1 at *
  replace h := h.keep hb
  have q_m := x_m.al
  have q_r := x_r.al
  go_wp2_with fail
  with_reducible refine (ZShr_any h (-q) k (by omega) hj).mono ?_
  rintro e v2 ⟨A3, n3, c3, rfl, z3, hb1⟩
  obtain ⟨x_m, x_r, h⟩ := mv3 hb1 x_m x_r h
  replace hb := bthen hb hb1
  clear hb1
  replace q_m := x_m.al
  replace q_r := x_r.al
  rw [HV.out] at z3 ⊢
  go_wp2
  replace x_m := x_m.aside (b' := (ngB (flI X q))) (A' := A3) (n' := n3) (c' := c3) (g := w.heap.size + 1) (by omega)
  replace h := h.put (b' := (ngB (flI X q))) (A' := A3) (n' := n3) (c' := c3) x_r
  replace z3 := z3.put (b' := (ngB (flI X q))) (A' := A3) (n' := n3) (c' := c3) x_r
  replace hb := put_below (g := w.heap.size + 1) hb (by omega) (.bool (ngB (flI X q))) (.slice A3 n3 c3)
  replace x_r := x_r.put (ngB (flI X q)) A3 n3 c3
  clear q_m q_r
  generalize (v2.setCell ⟨w.heap.size + 1, 0, none⟩ (.bool (ngB (flI X q)))).setCell ⟨w.heap.size + 1, 1, none⟩ (.slice A3 n3 c3) = v3 at *
  have q_m := x_m.al
  have q_r := x_r.al
  refine bodyPost_ret (v := .agg #[.bool (ngB (flI X q)), .slice A3 n3 c3]) (by simp [results, Tryz.results165, go_sem, q_r]) rfl ?_
  exact ⟨_, _, _, rfl, z3, hb⟩
 ·have hv : X * 2 ^ sc q = flI X q := by unfold flI; rw [if_neg hq0, sc_toNat (by omega) (by omega)]
  have HV := Lib.hid hv; clear hv
  go_enter Tryz.func165, Tryz.ntmps165
  go_wp2_with fail
  have x_m : Bx (w.alloc (.cells #[.bool b, .slice A n c] 24)) (w.heap.size) b A n c := by have := Bx.new w b A n c; simpa using this
  replace x_m := x_m.alloc (.cells #[.bool false, .slice none 0 0] 24)
  have x_r : Bx ((w.alloc (.cells #[.bool b, .slice A n c] 24)).alloc (.cells #[.bool false, .slice none 0 0] 24)) (w.heap.size + 1) false none 0 0 := by have := Bx.new (w.alloc (.cells #[.bool b, .slice A n c] 24)) false none 0 0; simpa using this
  have hb : Below w.heap.size w ((w.alloc (.cells #[.bool b, .slice A n c] 24)).alloc (.cells #[.bool false, .slice none 0 0] 24)) := (Below.alloc (Below.alloc (Below.refl w.heap.size w) (by simp) (.cells #[.bool b, .slice A n c] 24)) (by simp) (.cells #[.bool false, .slice none 0 0] 24))
  generalize (w.alloc (.cells #[.bool b, .slice A n c] 24)).alloc (.cells #[.bool false, .slice none 0 0] 24) = v1 at *
  replace h := h.keep hb
  have q_m := x_m.al
  have q_r := x_r.al
  go_wp2_with fail
  with_reducible refine (ZShl_any h q k hk hj).mono ?_
  rintro e v2 ⟨A3, n3, c3, rfl, z3, hb1⟩
  obtain ⟨x_m, x_r, h⟩ := mv3 hb1 x_m x_r h
  replace hb := bthen hb hb1
  clear hb1
  replace q_m := x_m.al
  replace q_r := x_r.al
  rw [HV.out] at z3 ⊢
  go_wp2
  replace x_m := x_m.aside (b' := (ngB (flI X q))) (A' := A3) (n' := n3) (c' := c3) (g := w.heap.size + 1) (by omega)
  replace h := h.put (b' := (ngB (flI X q))) (A' := A3) (n' := n3) (c' := c3) x_r
  replace z3 := z3.put (b' := (ngB (flI X q))) (A' := A3) (n' := n3) (c' := c3) x_r
  replace hb := put_below (g := w.heap.size + 1) hb (by omega) (.bool (ngB (flI X q))) (.slice A3 n3 c3)
  replace x_r := x_r.put (ngB (flI X q)) A3 n3 c3
  clear q_m q_r
  generalize (v2.setCell ⟨w.heap.size + 1, 0, none⟩ (.bool (ngB (flI X q)))).setCell ⟨w.heap.size + 1, 1, none⟩ (.slice A3 n3 c3) = v3 at *
  have q_m := x_m.al
  have q_r := x_r.al
  refine bodyPost_ret (v := .agg #[.bool (ngB (flI X q)), .slice A3 n3 c3]) (by simp [results, Tryz.results165, go_sem, q_r]) rfl ?_
  exact ⟨_, _, _, rfl, z3, hb⟩
theorem DFloor_any (h : Zr w b A n c X j) (q : Int) (k : Nat) (hk : j + 128 ≤ k) (hj : k ≤ 1000000) :
  Calls Tryz.prog 131 #[.agg #[.bool b, .slice A n c, .int .i64 e], .int .i64 q] w (OutZ w (flI (cM X e) (cE e + li q)) k) := by
 have hc := cE_in e
 have hl := li_in q
 have hwr : IntKind.i64.wrap (cE e + li q) = cE e + li q := wrap_in (by omega) (by omega)
 go_enter Tryz.func131, Tryz.ntmps131
 go_wp2_with fail
 have x_a : Dx (w.alloc (.cells #[.bool b, .slice A n c, .int .i64 e] 55)) (w.heap.size) b A n c e := by have := Dx.new w b A n c e; simpa using this
 replace x_a := x_a.alloc (.cells #[.bool false, .slice none 0 0] 24)
 have x_r : Bx ((w.alloc (.cells #[.bool b, .slice A n c, .int .i64 e] 55)).alloc (.cells #[.bool false, .slice none 0 0] 24)) (w.heap.size + 1) false none 0 0 := by have := Bx.new (w.alloc (.cells #[.bool b, .slice A n c, .int .i64 e] 55)) false none 0 0; simpa using this
 have hb : Below w.heap.size w ((w.alloc (.cells #[.bool b, .slice A n c, .int .i64 e] 55)).alloc (.cells #[.bool false, .slice none 0 0] 24)) := (Below.alloc (Below.alloc (Below.refl w.heap.size w) (by simp) (.cells #[.bool b, .slice A n c, .int .i64 e] 55)) (by simp) (.cells #[.bool false, .slice none 0 0] 24))
 generalize (w.alloc (.cells #[.bool b, .slice A n c, .int .i64 e] 55)).alloc (.cells #[.bool false, .slice none 0 0] 24) = v1 at *
 replace h := h.keep hb
 have q_a := x_a.al
 have q_r := x_r.al
 go_wp2_with fail
 with_reducible refine (read_any h).mono ?_
 rintro e v2 ⟨b1, A1, n1, c1, rfl, zc, hb1⟩
 obtain ⟨x_a, x_r, h⟩ := mv3 hb1 x_a x_r h
 replace hb := bthen hb hb1
 clear hb1
 replace q_a := x_a.al
 replace q_r := x_r.al
 clear h
 go_wp2_with fail
 replace x_r := x_r.asideD (b' := b1) (A' := A1) (n' := n1) (c' := c1) (e' := (cE e)) (g := w.heap.size) (by omega)
 replace zc := zc.putD (b' := b1) (A' := A1) (n' := n1) (c' := c1) (e' := (cE e)) x_a
 replace hb := put_belowD (g := w.heap.size) hb (by omega) (.bool b1) (.slice A1 n1 c1) (.int .i64 (cE e))
 replace x_a := x_a.put b1 A1 n1 c1 (cE e)
 clear q_a q_r
 generalize ((v2.setCell ⟨w.heap.size, 0, none⟩ (.bool b1)).setCell ⟨w.heap.size, 1, none⟩ (.slice A1 n1 c1)).setCell ⟨w.heap.size, 2, none⟩ (.int .i64 (cE e)) = v3 at *
 have q_a := x_a.al
 have q_r := x_r.al
 go_region_held3 (fun w' => w'.cell? ⟨w.heap.size, 0, none⟩ = some (.bool b1) ∧ w'.cell? ⟨w.heap.size, 1, none⟩ = some (.slice A1 n1 c1) ∧ w'.cell? ⟨w.heap.size, 2, none⟩ = some (.int .i64 (cE e)))
  (first | (with_reducible exact ⟨x_a.c0, x_a.c1, x_a.c2⟩) | (with_reducible exact ⟨(x_a.aside (by omega)).c0, (x_a.aside (by omega)).c1, (x_a.aside (by omega)).c2⟩) | (with_reducible exact ⟨((x_a.aside (by omega)).aside (by omega)).c0, ((x_a.aside (by omega)).aside (by omega)).c1, ((x_a.aside (by omega)).aside (by omega)).c2⟩) | (with_reducible exact ⟨(x_a.asideD (by omega)).c0, (x_a.asideD (by omega)).c1, (x_a.asideD (by omega)).c2⟩) | (with_reducible exact ⟨((x_a.asideD (by omega)).asideD (by omega)).c0, ((x_a.asideD (by omega)).asideD (by omega)).c1, ((x_a.asideD (by omega)).asideD (by omega)).c2⟩) | go_keep)
  (first | (go_at_call 166; (with_reducible refine (limit_bel q _).mono ?_); rintro e v4 ⟨rfl, hb1⟩; replace hb1 := undrew hb1; obtain ⟨x_a, x_r, zc⟩ := mv3 hb1 x_a x_r zc; replace hb := bthen hb hb1; clear hb1; replace q_a := x_a.al; replace q_r := x_r.al) | (go_at_call 165; (with_reducible refine (floorShift_any zc (cE e + li q) (by omega) k hk hj).mono ?_); rintro e v5 ⟨A3, n3, c3, rfl, z3, hb1⟩; obtain ⟨x_a, x_r, zc⟩ := mv3 hb1 x_a x_r zc; replace hb := bthen hb hb1; clear hb1; replace q_a := x_a.al; replace q_r := x_r.al))
 go_wp2
 replace x_a := x_a.aside (b' := (ngB (flI (cM X e) (cE e + li q)))) (A' := A3) (n' := n3) (c' := c3) (g := w.heap.size + 1) (by omega)
 replace zc := zc.put (b' := (ngB (flI (cM X e) (cE e + li q)))) (A' := A3) (n' := n3) (c' := c3) x_r
 replace z3 := z3.put (b' := (ngB (flI (cM X e) (cE e + li q)))) (A' := A3) (n' := n3) (c' := c3) x_r
 replace hb := put_below (g := w.heap.size + 1) hb (by omega) (.bool (ngB (flI (cM X e) (cE e + li q)))) (.slice A3 n3 c3)
 replace x_r := x_r.put (ngB (flI (cM X e) (cE e + li q))) A3 n3 c3
 clear q_a q_r
 generalize (v5.setCell ⟨w.heap.size + 1, 0, none⟩ (.bool (ngB (flI (cM X e) (cE e + li q))))).setCell ⟨w.heap.size + 1, 1, none⟩ (.slice A3 n3 c3) = v6 at *
 have q_a := x_a.al
 have q_r := x_r.al
 refine bodyPost_ret (v := .agg #[.bool (ngB (flI (cM X e) (cE e + li q))), .slice A3 n3 c3]) (by simp [results, Tryz.results131, go_sem, q_r]) rfl ?_
 exact ⟨_, _, _, rfl, z3, hb⟩
theorem DCeil_any (h : Zr w b A n c X j) (q : Int) (k : Nat) (hk : j + 128 ≤ k) (hj : k ≤ 1000000) :
  Calls Tryz.prog 132 #[.agg #[.bool b, .slice A n c, .int .i64 e], .int .i64 q] w (OutZ w (-flI (-cM X e) (cE e + li q)) k) := by
 have hc := cE_in e
 have hl := li_in q
 have hwr : IntKind.i64.wrap (cE e + li q) = cE e + li q := wrap_in (by omega) (by omega)
 go_enter Tryz.func132, Tryz.ntmps132
 go_wp2_with fail
 have x_a : Dx (w.alloc (.cells #[.bool b, .slice A n c, .int .i64 e] 55)) (w.heap.size) b A n c e := by have := Dx.new w b A n c e; simpa using this
 replace x_a := x_a.alloc (.cells #[.bool false, .slice none 0 0] 24)
 have x_r : Bx ((w.alloc (.cells #[.bool b, .slice A n c, .int .i64 e] 55)).alloc (.cells #[.bool false, .slice none 0 0] 24)) (w.heap.size + 1) false none 0 0 := by have := Bx.new (w.alloc (.cells #[.bool b, .slice A n c, .int .i64 e] 55)) false none 0 0; simpa using this
 have hb : Below w.heap.size w ((w.alloc (.cells #[.bool b, .slice A n c, .int .i64 e] 55)).alloc (.cells #[.bool false, .slice none 0 0] 24)) := (Below.alloc (Below.alloc (Below.refl w.heap.size w) (by simp) (.cells #[.bool b, .slice A n c, .int .i64 e] 55)) (by simp) (.cells #[.bool false, .slice none 0 0] 24))
 generalize (w.alloc (.cells #[.bool b, .slice A n c, .int .i64 e] 55)).alloc (.cells #[.bool false, .slice none 0 0] 24) = v1 at *
 replace h := h.keep hb
 have q_a := x_a.al
 have q_r := x_r.al
 go_wp2_with fail
 with_reducible refine (read_any h).mono ?_
 rintro e v2 ⟨b1, A1, n1, c1, rfl, zc, hb1⟩
 obtain ⟨x_a, x_r, h⟩ := mv3 hb1 x_a x_r h
 replace hb := bthen hb hb1
 clear hb1
 replace q_a := x_a.al
 replace q_r := x_r.al
 clear h
 go_wp2_with fail
 replace x_r := x_r.asideD (b' := b1) (A' := A1) (n' := n1) (c' := c1) (e' := (cE e)) (g := w.heap.size) (by omega)
 replace zc := zc.putD (b' := b1) (A' := A1) (n' := n1) (c' := c1) (e' := (cE e)) x_a
 replace hb := put_belowD (g := w.heap.size) hb (by omega) (.bool b1) (.slice A1 n1 c1) (.int .i64 (cE e))
 replace x_a := x_a.put b1 A1 n1 c1 (cE e)
 clear q_a q_r
 generalize ((v2.setCell ⟨w.heap.size, 0, none⟩ (.bool b1)).setCell ⟨w.heap.size, 1, none⟩ (.slice A1 n1 c1)).setCell ⟨w.heap.size, 2, none⟩ (.int .i64 (cE e)) = v3 at *
 have q_a := x_a.al
 have q_r := x_r.al
 go_region_held3 (fun w' => w'.cell? ⟨w.heap.size, 0, none⟩ = some (.bool b1) ∧ w'.cell? ⟨w.heap.size, 1, none⟩ = some (.slice A1 n1 c1) ∧ w'.cell? ⟨w.heap.size, 2, none⟩ = some (.int .i64 (cE e)))
  (first | (with_reducible exact ⟨x_a.c0, x_a.c1, x_a.c2⟩) | (with_reducible exact ⟨(x_a.aside (by omega)).c0, (x_a.aside (by omega)).c1, (x_a.aside (by omega)).c2⟩) | (with_reducible exact ⟨((x_a.aside (by omega)).aside (by omega)).c0, ((x_a.aside (by omega)).aside (by omega)).c1, ((x_a.aside (by omega)).aside (by omega)).c2⟩) | (with_reducible exact ⟨(x_a.asideD (by omega)).c0, (x_a.asideD (by omega)).c1, (x_a.asideD (by omega)).c2⟩) | (with_reducible exact ⟨((x_a.asideD (by omega)).asideD (by omega)).c0, ((x_a.asideD (by omega)).asideD (by omega)).c1, ((x_a.asideD (by omega)).asideD (by omega)).c2⟩) | go_keep)
  (first | (go_at_call 167; (with_reducible refine (ZNeg_any zc.drw j (Nat.le_refl _)).mono ?_); rintro e v4 ⟨A2, n2, c2, rfl, z1, hb1⟩; replace hb1 := undrew hb1; obtain ⟨x_a, x_r, zc⟩ := mv3 hb1 x_a x_r zc; replace hb := bthen hb hb1; clear hb1; replace q_a := x_a.al; replace q_r := x_r.al) | (go_at_call 166; (with_reducible refine (limit_bel q _).mono ?_); rintro e v5 ⟨rfl, hb1⟩; obtain ⟨x_a, x_r, zc, z1⟩ := mv4 hb1 x_a x_r zc z1; replace hb := bthen hb hb1; clear hb1; replace q_a := x_a.al; replace q_r := x_r.al) | (go_at_call 165; (with_reducible refine (floorShift_any z1.zr (cE e + li q) (by omega) k hk hj).mono ?_); rintro e v6 ⟨A3, n3, c3, rfl, z3, hb1⟩; obtain ⟨x_a, x_r, zc, z1⟩ := mv4 hb1 x_a x_r zc z1; replace hb := bthen hb hb1; clear hb1; replace q_a := x_a.al; replace q_r := x_r.al) | (go_at_call 167; (with_reducible refine (ZNeg_any z3.zr k (Nat.le_refl _)).mono ?_); rintro e v7 ⟨A4, n4, c4, rfl, z4, hb1⟩; obtain ⟨x_a, x_r, zc, z1, z3⟩ := mv5 hb1 x_a x_r zc z1 z3; replace hb := bthen hb hb1; clear hb1; replace q_a := x_a.al; replace q_r := x_r.al))
 go_wp2
 replace x_a := x_a.aside (b' := (ngB (-flI (-cM X e) (cE e + li q)))) (A' := A4) (n' := n4) (c' := c4) (g := w.heap.size + 1) (by omega)
 replace zc := zc.put (b' := (ngB (-flI (-cM X e) (cE e + li q)))) (A' := A4) (n' := n4) (c' := c4) x_r
 replace z1 := z1.put (b' := (ngB (-flI (-cM X e) (cE e + li q)))) (A' := A4) (n' := n4) (c' := c4) x_r
 replace z3 := z3.put (b' := (ngB (-flI (-cM X e) (cE e + li q)))) (A' := A4) (n' := n4) (c' := c4) x_r
 replace z4 := z4.put (b' := (ngB (-flI (-cM X e) (cE e + li q)))) (A' := A4) (n' := n4) (c' := c4) x_r
 replace hb := put_below (g := w.heap.size + 1) hb (by omega) (.bool (ngB (-flI (-cM X e) (cE e + li q)))) (.slice A4 n4 c4)
 replace x_r := x_r.put (ngB (-flI (-cM X e) (cE e + li q))) A4 n4 c4
 clear q_a q_r
 generalize (v7.setCell ⟨w.heap.size + 1, 0, none⟩ (.bool (ngB (-flI (-cM X e) (cE e + li q))))).setCell ⟨w.heap.size + 1, 1, none⟩ (.slice A4 n4 c4) = v8 at *
 have q_a := x_a.al
 have q_r := x_r.al
 refine bodyPost_ret (v := .agg #[.bool (ngB (-flI (-cM X e) (cE e + li q))), .slice A4 n4 c4]) (by simp [results, Tryz.results132, go_sem, q_r]) rfl ?_
 exact ⟨_, _, _, rfl, z4, hb⟩
end
end Go.Proofs.YtdonaominffpnaaGreatDoor
