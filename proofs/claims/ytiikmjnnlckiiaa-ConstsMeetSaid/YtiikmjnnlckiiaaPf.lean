/-
  dyad: Norm, Of, Sign, Neg, Shift, Log, Floor, Ceil.
-/
import Derived.Test.YtiikmjnnlckiiaaPc
import Derived.Laws.Bits64b
import Derived.Lib.TrailingZeros
namespace Go.Proofs.Ytiikmjnnlckiiaa
section
set_option maxRecDepth 100000
set_option linter.unusedVariables false

/-- How often two divides a number: at most f times is tried. -/
def tzF : Nat → Nat → Nat
  | 0, _ => 0
  | f + 1, n => if n % 2 = 0 then tzF f (n / 2) + 1 else 0
theorem tzF_spec (f : Nat) : ∀ n, 0 < n → n ≤ f → ∃ q, q % 2 = 1 ∧ n = q * 2 ^ tzF f n := by
  induction f with
  | zero => intro n h0 h1; omega
  | succ f ih =>
    intro n h0 h1
    by_cases h : n % 2 = 0
    · obtain ⟨q, hq, he⟩ := ih (n / 2) (by omega) (by omega)
      refine ⟨q, hq, ?_⟩
      have e : tzF (f + 1) n = tzF f (n / 2) + 1 := by simp only [tzF]; rw [if_pos h]
      rw [e, Nat.pow_succ, ← Nat.mul_assoc, ← he]
      omega
    · refine ⟨n, by omega, ?_⟩
      have e : tzF (f + 1) n = 0 := by simp only [tzF]; rw [if_neg h]
      rw [e]; omega
/-- How often two divides an integer. -/
def tz (X : Int) : Nat := tzF X.natAbs X.natAbs
/-- The odd part. -/
def od (X : Int) : Int := X / 2 ^ tz X
/-- The exponent in normal form. -/
def nE (X e : Int) : Int := if X = 0 then 0 else e + tz X
theorem two_pow_pos (k : Nat) : (0 : Int) < 2 ^ k := by
  have := Nat.two_pow_pos k
  have e : (2 : Int) ^ k = ((2 ^ k : Nat) : Int) := by rw [Int.natCast_pow]; rfl
  omega
theorem pow_cast (k : Nat) : (2 : Int) ^ k = ((2 ^ k : Nat) : Int) := by rw [Int.natCast_pow]; rfl
theorem od_zero : od 0 = 0 := by unfold od; simp
theorem tz_spec {X : Int} (h : X ≠ 0) : X = od X * 2 ^ tz X ∧ od X % 2 = 1 := by
  obtain ⟨q, hq, he⟩ := tzF_spec X.natAbs X.natAbs (by omega) (Nat.le_refl _)
  have hp := two_pow_pos (tz X)
  have key : ∃ Q : Int, Q % 2 = 1 ∧ X = Q * 2 ^ tz X := by
    rcases Int.lt_or_le X 0 with h0 | h0
    · refine ⟨-(q : Int), by omega, ?_⟩
      have : ((q * 2 ^ tz X : Nat) : Int) = -X := by rw [show q * 2 ^ tz X = X.natAbs from he.symm]; omega
      rw [Int.natCast_mul, ← pow_cast] at this
      rw [Int.neg_mul]; omega
    · refine ⟨(q : Int), by omega, ?_⟩
      have : ((q * 2 ^ tz X : Nat) : Int) = X := by rw [show q * 2 ^ tz X = X.natAbs from he.symm]; omega
      rw [Int.natCast_mul, ← pow_cast] at this
      omega
  obtain ⟨Q, hQ, hX⟩ := key
  have : od X = Q := by
    unfold od
    generalize (2 : Int) ^ tz X = p at *
    rw [hX]
    exact Int.mul_ediv_cancel _ (by omega)
  rw [this]
  exact ⟨hX, hQ⟩
theorem od_ne {X : Int} (h : X ≠ 0) : od X ≠ 0 := fun h0 => by have := (tz_spec h).2; omega
theorem odd_pow {q r : Int} {s t : Nat} (hq : q % 2 = 1) (hr : r % 2 = 1) (h : q * 2 ^ s = r * 2 ^ t) : s ≤ t := by
  rcases Nat.lt_or_ge t s with hlt | hge
  · exfalso
    obtain ⟨d, rfl⟩ : ∃ d, s = t + (d + 1) := ⟨s - t - 1, by omega⟩
    rw [Int.pow_add, ← Int.mul_assoc, Int.mul_right_comm] at h
    have h1 := Int.eq_of_mul_eq_mul_right (by have := two_pow_pos t; omega) h
    rw [Int.pow_succ, ← Int.mul_assoc] at h1
    omega
  · exact hge
theorem nf_unique {X q : Int} {t : Nat} (h : X = q * 2 ^ t) (hq : q % 2 = 1) : tz X = t ∧ od X = q := by
  have hX : X ≠ 0 := by
    intro h0
    rw [h0] at h
    have := Int.mul_eq_zero.1 h.symm
    have h2 := two_pow_pos t
    omega
  obtain ⟨h1, h2⟩ := tz_spec hX
  have e : od X * 2 ^ tz X = q * 2 ^ t := h1.symm.trans h
  have ht : tz X = t := Nat.le_antisymm (odd_pow h2 hq e) (odd_pow hq h2 e.symm)
  refine ⟨ht, ?_⟩
  rw [ht] at e
  exact Int.eq_of_mul_eq_mul_right (by have := two_pow_pos t; omega) e
theorem mul_pow_ne {X : Int} (k : Nat) : X * 2 ^ k = 0 ↔ X = 0 := by
  rw [Int.mul_eq_zero]
  have := two_pow_pos k
  omega
theorem od_shl (X : Int) (k : Nat) : od (X * 2 ^ k) = od X := by
  by_cases h : X = 0
  · subst h; rw [Int.zero_mul]
  · obtain ⟨h1, h2⟩ := tz_spec h
    exact (nf_unique (t := tz X + k) (by rw [Int.pow_add, ← Int.mul_assoc, ← h1]) h2).2
theorem tz_shl {X : Int} (h : X ≠ 0) (k : Nat) : tz (X * 2 ^ k) = tz X + k := by
  obtain ⟨h1, h2⟩ := tz_spec h
  exact (nf_unique (t := tz X + k) (by rw [Int.pow_add, ← Int.mul_assoc, ← h1]) h2).1
theorem nE_shl (X e : Int) (k : Nat) : nE (X * 2 ^ k) e = nE X (e + k) := by
  unfold nE
  by_cases h : X = 0
  · rw [if_pos h, if_pos ((mul_pow_ne k).2 h)]
  · rw [if_neg h, if_neg (fun h1 => h ((mul_pow_ne k).1 h1)), tz_shl h]; omega
theorem nE_zero (e : Int) : nE 0 e = 0 := rfl
theorem nE_ne {X : Int} (h : X ≠ 0) (e : Int) : nE X e = e + tz X := by unfold nE; rw [if_neg h]
/-- Two ways to write one number have one normal form. -/
theorem nf_same {X Y e f m : Int} {a b : Nat} (h : X * 2 ^ a = Y * 2 ^ b) (he : e = m + a) (hf : f = m + b) : od X = od Y ∧ nE X e = nE Y f := by
  subst he hf
  rw [← od_shl X a, ← od_shl Y b, ← nE_shl, ← nE_shl, h]
  exact ⟨rfl, rfl⟩
theorem od_neg (X : Int) : od (-X) = -od X := by
  by_cases h : X = 0
  · subst h; rw [Int.neg_zero, od_zero, Int.neg_zero]
  · obtain ⟨h1, h2⟩ := tz_spec h
    exact (nf_unique (t := tz X) (by rw [Int.neg_mul, ← h1]) (by omega)).2
theorem od_nf {X e : Int} : od (od X) = od X ∧ nE (od X) (nE X e) = nE X e := by
  by_cases h : X = 0
  · subst h; rw [od_zero, od_zero]; exact ⟨rfl, rfl⟩
  · obtain ⟨h1, h2⟩ := tz_spec h
    obtain ⟨h3, h4⟩ := nf_unique (X := od X) (t := 0) (by omega) h2
    exact ⟨h4, by rw [nE_ne (od_ne h), h3]; omega⟩
theorem od_abs (X : Int) : (od X).natAbs ≤ X.natAbs := by
  by_cases h : X = 0
  · subst h; rw [od_zero]; exact Nat.le_refl _
  · obtain ⟨h1, h2⟩ := tz_spec h
    conv => rhs; rw [h1]
    rw [Int.natAbs_mul, pow_cast, Int.natAbs_natCast]
    exact Nat.le_mul_of_pos_right _ (Nat.two_pow_pos _)
theorem od_eq0 (X : Int) : od X = 0 ↔ X = 0 := ⟨fun h => Classical.byContradiction fun h1 => od_ne h1 h, fun h => by subst h; exact od_zero⟩
/-- Which exponents count. -/
def rE (e : Int) : Bool := decide (-4000 ≤ e ∧ e ≤ 4000)
def cM (X e : Int) : Int := if rE e then X else 0
def cE (e : Int) : Int := if rE e then e else 0
theorem cE_in (e : Int) : -4000 ≤ cE e ∧ cE e ≤ 4000 := by
  unfold cE rE
  by_cases h : -4000 ≤ e ∧ e ≤ 4000
  · rw [if_pos (decide_eq_true h)]; exact h
  · rw [if_neg (by simpa using h)]; omega
theorem c_yes {X e : Int} (h : -4000 ≤ e ∧ e ≤ 4000) : cM X e = X ∧ cE e = e := by
  have : rE e = true := decide_eq_true h
  unfold cM cE; rw [this]; exact ⟨rfl, rfl⟩
theorem c_no {X e : Int} (h : ¬ (-4000 ≤ e ∧ e ≤ 4000)) : cM X e = 0 ∧ cE e = 0 := by
  have : rE e = false := decide_eq_false h
  unfold cM cE; rw [this]; exact ⟨rfl, rfl⟩
/-- What a count is limited to. -/
def li (n : Int) : Int := min (max n (-4000)) 4000
theorem li_in (n : Int) : -4000 ≤ li n ∧ li n ≤ 4000 := by unfold li; omega
end
end Go.Proofs.Ytiikmjnnlckiiaa
namespace Go.Proofs.Ytiikmjnnlckiiaa
section
set_option maxRecDepth 100000
open Go.RowKit
set_option linter.unusedVariables false

/-- Block g holds a dyad: a sign, the limbs' slice, an exponent. -/
def Dx (w : World) (g : Nat) (b : Bool) (A : Option Addr) (n c : Nat) (e : Int) : Prop := w.heap[g]? = some (.cells #[.bool b, .slice A n c, .int .i64 e] 49 (0, 0))
section
variable {w w' : World} {g n c B n' c' : Nat} {b : Bool} {A A' : Option Addr} {l : List Int} {e : Int}
theorem Dx.lt (h : Dx w g b A n c e) : g < w.heap.size := by
  rcases Nat.lt_or_ge g w.heap.size with hlt | hge
  · exact hlt
  · unfold Dx at h; rw [Array.getElem?_eq_none hge] at h; cases h
theorem Dx.c0 (h : Dx w g b A n c e) : w.cell? ⟨g, 0, none⟩ = some (.bool b) := by rw [cell_of_row w g 0 _ _ (0, 0) h]; rfl
theorem Dx.c1 (h : Dx w g b A n c e) : w.cell? ⟨g, 1, none⟩ = some (.slice A n c) := by rw [cell_of_row w g 1 _ _ (0, 0) h]; rfl
theorem Dx.c2 (h : Dx w g b A n c e) : w.cell? ⟨g, 2, none⟩ = some (.int .i64 e) := by rw [cell_of_row w g 2 _ _ (0, 0) h]; rfl
theorem Dx.fr (h : Dx w g b A n c e) (i : Nat) : w.frozen? ⟨g, i, none⟩ = false := by
  unfold Dx at h
  simp [World.frozen?, h]
theorem Dx.new (w : World) (b : Bool) (A : Option Addr) (n c : Nat) (e : Int) : Dx (w.alloc (.cells #[.bool b, .slice A n c, .int .i64 e] 49)) w.heap.size b A n c e := heap_alloc_new w _
theorem Dx.alloc (h : Dx w g b A n c e) (o : Obj) : Dx (w.alloc o) g b A n c e := (Below.heap_alloc w o g h.lt).trans h
theorem Dx.drew (h : Dx w g b A n c e) : Dx w.drew g b A n c e := h
theorem Dx.below {B : Nat} (h : Dx w g b A n c e) (hb : Below B w w') (hg : g < B) : Dx w' g b A n c e := (hb.block g hg).trans h
theorem Dx.keep (h : Dx w g b A n c e) (hb : Below w.heap.size w w') : Dx w' g b A n c e := h.below hb h.lt
instance Dx.mv {v w : World} : Mv (Dx v g b A n c e) v w (Dx w g b A n c e) := ⟨fun h hb => Dx.keep h hb⟩
theorem Dx.al {w : World} {g : Nat} {b : Bool} {A : Option Addr} {n : Nat} {c : Nat} {e : Int} (h : Dx w g b A n c e) : w.cell? ⟨g, 0, none⟩ = some (.bool b) ∧ w.frozen? ⟨g, 0, none⟩ = false ∧ w.cell? ⟨g, 1, none⟩ = some (.slice A n c) ∧ w.frozen? ⟨g, 1, none⟩ = false ∧ w.cell? ⟨g, 2, none⟩ = some (.int .i64 e) ∧ w.frozen? ⟨g, 2, none⟩ = false := ⟨h.c0, h.fr 0, h.c1, h.fr 1, h.c2, h.fr 2⟩
theorem Dx.far (h : Dx w g b A n c e) {p : Addr} (hp : g ≠ p.block) (u : Value) : Dx (w.setCell p u) g b A n c e := (Below.heap_setCell w p u g hp).trans h
theorem Dx.by_ {k : Nat} (h : Dx w g b A n c e) (hg : w.grownBy w' (some k)) (hne : g ≠ k) : Dx w' g b A n c e := (hg.block g h.lt (fun e => by injection e with e; exact hne e)).trans h
end
/-- A world in which a dyad was laid into block g. -/
abbrev putD (w : World) (g : Nat) (b : Bool) (A : Option Addr) (n c : Nat) (e : Int) : World := ((w.setCell ⟨g, 0, none⟩ (.bool b)).setCell ⟨g, 1, none⟩ (.slice A n c)).setCell ⟨g, 2, none⟩ (.int .i64 e)
section
variable {w w' : World} {g h B n c n' c' k j : Nat} {b b' : Bool} {A A' : Option Addr} {l : List Int} {e e' X : Int} {b2 : Bool} {A2 : Option Addr} {n2 c2 : Nat} {e2 : Int}
theorem Dx.put (x : Dx w g b A n c e) (b' : Bool) (A' : Option Addr) (n' c' : Nat) (e' : Int) : Dx (((w.setCell ⟨g, 0, none⟩ (.bool b')).setCell ⟨g, 1, none⟩ (.slice A' n' c')).setCell ⟨g, 2, none⟩ (.int .i64 e')) g b' A' n' c' e' := by
  unfold Dx at x ⊢
  simp [World.setCell, Array.getElem?_modify, x]
theorem put_belowD {w0 : World} (hb : Below B w0 w) (hg : B ≤ g) (u u' u2 : Value) : Below B w0 (((w.setCell ⟨g, 0, none⟩ u).setCell ⟨g, 1, none⟩ u').setCell ⟨g, 2, none⟩ u2) := ((hb.setCell hg _).setCell hg _).setCell hg _
theorem Rd.putD (hr : Rd w B A' n' c' l) (x : Dx w g b A n c e) (b2 : Bool) (A2 : Option Addr) (n2 c2 : Nat) (e2 : Int) : Rd (((w.setCell ⟨g, 0, none⟩ (.bool b2)).setCell ⟨g, 1, none⟩ (.slice A2 n2 c2)).setCell ⟨g, 2, none⟩ (.int .i64 e2)) B A' n' c' l := by
  have h0 := x.c0
  have h1 := x.c1
  have h2 := x.c2
  refine ⟨hr.1, hr.2.1, hr.2.2.1, hr.2.2.2.1, fun hn => ?_⟩
  obtain ⟨d, off, e, hd, hc⟩ := hr.at_ hn
  refine ⟨d, off, e, hd, fun k hk => ?_⟩
  have hck := hc k hk
  have e0 : (⟨d, off + k, none⟩ : Addr) ≠ ⟨g, 0, none⟩ := fun e => by rw [e, h0] at hck; cases hck
  have e1 : (⟨d, off + k, none⟩ : Addr) ≠ ⟨g, 1, none⟩ := fun e => by rw [e, h1] at hck; cases hck
  have e2 : (⟨d, off + k, none⟩ : Addr) ≠ ⟨g, 2, none⟩ := fun e => by rw [e, h2] at hck; cases hck
  rw [World.cell?_setCell_other _ _ _ _ e2.symm, World.cell?_setCell_other _ _ _ _ e1.symm, World.cell?_setCell_other _ _ _ _ e0.symm]
  exact hck
theorem Rd.sputD (hr : Rd w w.heap.size A n c l) (x : Dx w g b2 A2 n2 c2 e2) : Rd (((w.setCell ⟨g, 0, none⟩ (.bool b')).setCell ⟨g, 1, none⟩ (.slice A' n' c')).setCell ⟨g, 2, none⟩ (.int .i64 e')) (((w.setCell ⟨g, 0, none⟩ (.bool b')).setCell ⟨g, 1, none⟩ (.slice A' n' c')).setCell ⟨g, 2, none⟩ (.int .i64 e')).heap.size A n c l :=
  (hr.putD x _ _ _ _ _).more (by simp [World.setCell])
theorem Zr.putD (hr : Zr w b A n c X k) (x : Dx w g b2 A2 n2 c2 e2) : Zr (((w.setCell ⟨g, 0, none⟩ (.bool b')).setCell ⟨g, 1, none⟩ (.slice A' n' c')).setCell ⟨g, 2, none⟩ (.int .i64 e')) b A n c X k := by
  obtain ⟨l, h1, h2, h3⟩ := hr
  exact ⟨l, h1.sputD x, h2, h3⟩
theorem Zn.putD (hr : Zn w A n c X k) (x : Dx w g b2 A2 n2 c2 e2) : Zn (((w.setCell ⟨g, 0, none⟩ (.bool b')).setCell ⟨g, 1, none⟩ (.slice A' n' c')).setCell ⟨g, 2, none⟩ (.int .i64 e')) A n c X k :=
  ⟨hr.1.sputD x, hr.2⟩
theorem Dx.aside (x : Dx w h b A n c e) (hg : h ≠ g) : Dx ((w.setCell ⟨g, 0, none⟩ (.bool b')).setCell ⟨g, 1, none⟩ (.slice A' n' c')) h b A n c e := (x.far hg _).far hg _
theorem Dx.asideD (x : Dx w h b A n c e) (hg : h ≠ g) : Dx (((w.setCell ⟨g, 0, none⟩ (.bool b')).setCell ⟨g, 1, none⟩ (.slice A' n' c')).setCell ⟨g, 2, none⟩ (.int .i64 e')) h b A n c e := ((x.far hg _).far hg _).far hg _
theorem Bx.asideD (x : Bx w h b A n c) (hg : h ≠ g) : Bx (((w.setCell ⟨g, 0, none⟩ (.bool b')).setCell ⟨g, 1, none⟩ (.slice A' n' c')).setCell ⟨g, 2, none⟩ (.int .i64 e')) h b A n c := ((x.far hg _).far hg _).far hg _
end
section
variable {w w' : World} {g n c n' c' : Nat} {b b' : Bool} {A A' : Option Addr} {e e' : Int}
end
/-- What a function of dyads hands back. -/
def OutD (w : World) (X E : Int) (k : Nat) (e : Ending) (w' : World) : Prop := ∃ A n c, e = .returned (.agg #[.bool (ngB X), .slice A n c, .int .i64 E]) ∧ Zn w' A n c X k ∧ Below w.heap.size w w'

theorem tz_key (x a : Nat) (hx : x < 18446744073709551616) (hx0 : x ≠ 0) (hlow : x &&& (18446744073709551616 - x) = a) :
    IntKind.u64.wrap (bits BinOp.and IntKind.u64 (x : Int) (IntKind.u64.wrap (-(x : Int))) * 285870213051353865) / 288230376151711744 = ((a * 285870213051353865 % 18446744073709551616 / 288230376151711744 : Nat) : Int) := by
  have e1 : IntKind.u64.wrap (-(x : Int)) = ((18446744073709551616 - x : Nat) : Int) := by rw [wrap_u64]; omega
  rw [e1, bits_and_u64_nat x _ hx (by omega), hlow, wrap_u64]
  omega
theorem limit_any (n : Int) (w : World) : Calls Try.prog 66 #[.int .i64 n] w fun e w' => e = .returned (.int .i64 (li n)) ∧ w = w' := by
  unfold li
  go_enter Try.func66, Try.ntmps66
  go_wp2
  all_goals go_ret
  all_goals exact ⟨ret_i64 (by omega), rfl⟩

/-- What read hands back: what the argument counts as. -/
def RePost (w : World) (X e : Int) (k : Nat) (en : Ending) (w' : World) : Prop := ∃ b A n c, en = .returned (.agg #[.bool b, .slice A n c, .int .i64 (cE e)]) ∧ Zr w' b A n c (cM X e) k ∧ Below w.heap.size w w'
end
end Go.Proofs.Ytiikmjnnlckiiaa
namespace Go.Proofs.Ytiikmjnnlckiiaa
section
set_option maxRecDepth 100000
open Go.RowKit
set_option linter.unusedVariables false

set_option maxRecDepth 100000 in
set_option maxHeartbeats 1000000 in
theorem read_any {b : Bool} {A : Option Addr} {n c : Nat} {X e : Int} {j : Nat} {w : World} (h : Zr w b A n c X j) :
    Calls Try.prog 61 #[.agg #[.bool b, .slice A n c, .int .i64 e]] w (RePost w X e j) := by
  by_cases hr : -4000 ≤ e ∧ e ≤ 4000
  · obtain ⟨hM, hE⟩ := c_yes (X := X) hr
    have HM := Lib.hid hM; have HE := Lib.hid hE; clear hM hE
    have h1 : ¬ e < -4000 := by omega
    have h2 : ¬ 4000 < e := by omega
    go_enter Try.func61, Try.ntmps61
    go_wp2
    refine bodyPost_ret (v := .agg #[.bool b, .slice A n c, .int .i64 e]) (by simp [results, Try.results61, go_sem]) rfl ?_
    exact ⟨_, _, _, _, by rw [HE.out], by rw [HM.out]; exact h.keep (below_alloc2 _ _ _), below_alloc2 _ _ _⟩
  · obtain ⟨hM, hE⟩ := c_no (X := X) hr
    have HM := Lib.hid hM; have HE := Lib.hid hE; clear hM hE
    have hfin : ∀ w' : World, Zr w' false none 0 0 (cM X e) j := fun w' => ⟨[], Rd.nil, by rw [HM.out]; rfl, Nat.zero_le _⟩
    have HFIN := Lib.hid hfin; clear hfin
    rcases (show e < -4000 ∨ (¬ e < -4000 ∧ 4000 < e) by omega) with h1 | ⟨h1, h2⟩
    · skip
      go_enter Try.func61, Try.ntmps61
      go_wp2
      refine bodyPost_ret (v := .agg #[.bool false, .slice none 0 0, .int .i64 0]) (by simp [results, Try.results61, go_sem]) rfl ?_
      exact ⟨_, _, _, _, by rw [HE.out], HFIN.out _, below_alloc2 _ _ _⟩
    · skip
      go_enter Try.func61, Try.ntmps61
      go_wp2
      refine bodyPost_ret (v := .agg #[.bool false, .slice none 0 0, .int .i64 0]) (by simp [results, Try.results61, go_sem]) rfl ?_
      exact ⟨_, _, _, _, by rw [HE.out], HFIN.out _, below_alloc2 _ _ _⟩
end
end Go.Proofs.Ytiikmjnnlckiiaa
namespace Go.Proofs.Ytiikmjnnlckiiaa
section
set_option maxRecDepth 100000
open Go.RowKit
set_option linter.unusedVariables false

theorem Zn.nil0 (w : World) (k : Nat) : Zn w none 0 0 0 k := ⟨by show Rd w w.heap.size none 0 0 (dg Wd 0); rw [dg_zero]; exact Rd.nil, Nat.zero_le _⟩
theorem OutD.nil0 {w w' : World} {X e : Int} (k : Nat) (h : X = 0) (hb : Below w.heap.size w w') : OutD w (od X) (nE X e) k (.returned (.agg #[.bool false, .slice none 0 0, .int .i64 0])) w' := by
  subst h
  exact ⟨_, _, _, rfl, Zn.nil0 _ _, hb⟩
theorem zi_nat (b : Bool) (N M : Nat) : zi b (N * M) = zi b N * (M : Int) := by
  unfold zi; split
  · rw [Int.natCast_mul, Int.neg_mul]
  · rw [Int.natCast_mul]
/-- What the lowest limb that is not nought says of the whole. -/
theorem low_limb {l : List Int} (hl : Lim Wd l) {k t m : Nat} (hk : k < l.length) (h0 : vl Wd (l.take k) = 0) (hx : l[k] = ((2 ^ t * (2 * m + 1) : Nat) : Int)) (ht : t < 64) (b : Bool) :
    ∃ q : Int, q % 2 = 1 ∧ zi b (vl Wd (l.drop k)) = q * 2 ^ t ∧ zi b (vl Wd l) = q * 2 ^ (64 * k + t) := by
  have e1 := vl_split Wd l k (by omega)
  have e2 := vl_drop_step Wd l k hk
  rw [hx, Int.toNat_natCast] at e2
  generalize vl Wd (l.drop (k + 1)) = r at *
  have eW : Wd = 2 ^ t * (2 * 2 ^ (63 - t)) := by
    rw [← Nat.pow_succ', ← Nat.pow_add, show t + (63 - t + 1) = 64 by omega]; rfl
  have e3 : vl Wd (l.drop k) = (2 * (m + 2 ^ (63 - t) * r) + 1) * 2 ^ t := by
    rw [e2, eW]
    generalize 2 ^ t = p
    generalize 2 ^ (63 - t) = s
    rw [Nat.mul_assoc p, ← Nat.mul_add, Nat.mul_comm p]
    congr 1
    rw [Nat.mul_add, Nat.mul_assoc]; omega
  refine ⟨zi b (2 * (m + 2 ^ (63 - t) * r) + 1), ?_, ?_, ?_⟩
  · unfold zi; split <;> omega
  · rw [e3, zi_nat, pow_cast]
  · rw [e1, h0, Nat.zero_add, e3, Nat.mul_comm, Nat.mul_assoc, zi_nat, pow_cast, show Wd = 2 ^ 64 by rfl, ← Nat.pow_mul, ← Nat.pow_add, Nat.add_comm t]
theorem exact_shr {q : Int} {t : Nat} : q * 2 ^ t / 2 ^ t = q := Int.mul_ediv_cancel _ (by have := two_pow_pos t; omega)
theorem sc_nat {t : Nat} (h : t ≤ 8192) : sc (t : Int) = t := by unfold sc; omega

end
end Go.Proofs.Ytiikmjnnlckiiaa
namespace Go.Proofs.Ytiikmjnnlckiiaa
section
set_option maxRecDepth 100000
open Go.RowKit
set_option linter.unusedVariables false

theorem limit_bel (n : Int) (w : World) : Calls Try.prog 66 #[.int .i64 n] w fun e w' => e = .returned (.int .i64 (li n)) ∧ Below w.heap.size w w' :=
  (limit_any n w).mono fun e w' ⟨h1, h2⟩ => ⟨h1, by rw [← h2]; exact Below.refl _ _⟩
/-- An integer times a power of two, rounded down. -/
def flI (X n : Int) : Int := if n < 0 then X / 2 ^ (-n).toNat else X * 2 ^ n.toNat
theorem tup_ib {a b : Int} {x y : Bool} (h : a = b) (h2 : x = y) : Ending.returned (.tuple #[.int .i64 a, .bool x]) = .returned (.tuple #[.int .i64 b, .bool y]) := by rw [h, h2]
theorem wrap_in {n : Int} (h0 : -9223372036854775808 ≤ n) (h1 : n ≤ 9223372036854775807) : IntKind.i64.wrap n = n := IntWalk.i64_in _ ⟨h0, h1⟩
theorem sc_toNat {n : Int} (h0 : 0 ≤ n) (h1 : n ≤ 8192) : sc n = n.toNat := by unfold sc; omega

theorem field0 (b : Bool) (A : Option Addr) (n c : Nat) (e : Int) (w : World) : (Instr.field 49 (.agg #[.bool b, .slice A n c, .int .i64 e]) 0).run Try.prog w = .ok (.agg #[.bool b, .slice A n c]) w := by
  kernel_rfl
def lgI (X e : Int) : Int := if X = 0 then 0 else e + bl X.natAbs - 1
def lgB (X : Int) : Bool := decide (X ≠ 0)
set_option maxRecDepth 100000 in
set_option maxHeartbeats 1000000 in
theorem floorShift_any {b : Bool} {A : Option Addr} {n c : Nat} {X : Int} {j : Nat} {w : World} (h : Zr w b A n c X j) (q : Int) (hq : -8000 ≤ q ∧ q ≤ 8000) (k : Nat) (hk : j + 128 ≤ k) (hj : k ≤ 1000000) :
    Calls Try.prog 65 #[.agg #[.bool b, .slice A n c], .int .i64 q] w (OutZ w (flI X q) k) := by
  by_cases hq0 : q < 0
  · have hv : X / 2 ^ sc (-q) = flI X q := by unfold flI; rw [if_pos hq0, sc_toNat (by omega) (by omega)]
    have HV := Lib.hid hv; clear hv
    go_enter Try.func65, Try.ntmps65
    go_wp2_with fail
    have x_m : Bx (w.alloc (.cells #[.bool b, .slice A n c] 25)) (w.heap.size) b A n c := by have := Bx.new w b A n c; simpa using this
    replace x_m := x_m.alloc (.cells #[.bool false, .slice none 0 0] 25)
    have x_r : Bx ((w.alloc (.cells #[.bool b, .slice A n c] 25)).alloc (.cells #[.bool false, .slice none 0 0] 25)) (w.heap.size + 1) false none 0 0 := by have := Bx.new (w.alloc (.cells #[.bool b, .slice A n c] 25)) false none 0 0; simpa using this
    have hb : Below w.heap.size w ((w.alloc (.cells #[.bool b, .slice A n c] 25)).alloc (.cells #[.bool false, .slice none 0 0] 25)) := (Below.alloc (Below.alloc (Below.refl w.heap.size w) (by simp) (.cells #[.bool b, .slice A n c] 25)) (by simp) (.cells #[.bool false, .slice none 0 0] 25))
    generalize (w.alloc (.cells #[.bool b, .slice A n c] 25)).alloc (.cells #[.bool false, .slice none 0 0] 25) = v1 at *
    replace h := h.keep hb
    have q_m := x_m.al
    have q_r := x_r.al
    go_wp2_with fail
    with_reducible refine (ZShr_any h (-q) k (by omega) hj).mono ?_
    rintro e v2 ⟨A3, n3, c3, rfl, z3, hb1⟩
    obtain ⟨x_m, x_r, h⟩ := mv3 hb1 x_m x_r h
    replace hb := bthen hb hb1
    clear hb1
    replace q_m := x_m.al
    replace q_r := x_r.al
    rw [HV.out] at z3 ⊢
    go_wp2
    replace x_m := x_m.aside (b' := (ngB (flI X q))) (A' := A3) (n' := n3) (c' := c3) (g := w.heap.size + 1) (by omega)
    replace h := h.put (b' := (ngB (flI X q))) (A' := A3) (n' := n3) (c' := c3) x_r
    replace z3 := z3.put (b' := (ngB (flI X q))) (A' := A3) (n' := n3) (c' := c3) x_r
    replace hb := put_below (g := w.heap.size + 1) hb (by omega) (.bool (ngB (flI X q))) (.slice A3 n3 c3)
    replace x_r := x_r.put (ngB (flI X q)) A3 n3 c3
    clear q_m q_r
    generalize (v2.setCell ⟨w.heap.size + 1, 0, none⟩ (.bool (ngB (flI X q)))).setCell ⟨w.heap.size + 1, 1, none⟩ (.slice A3 n3 c3) = v3 at *
    have q_m := x_m.al
    have q_r := x_r.al
    refine bodyPost_ret (v := .agg #[.bool (ngB (flI X q)), .slice A3 n3 c3]) (by simp [results, Try.results65, go_sem, q_r]) rfl ?_
    exact ⟨_, _, _, rfl, z3, hb⟩
  · have hv : X * 2 ^ sc q = flI X q := by unfold flI; rw [if_neg hq0, sc_toNat (by omega) (by omega)]
    have HV := Lib.hid hv; clear hv
    go_enter Try.func65, Try.ntmps65
    go_wp2_with fail
    have x_m : Bx (w.alloc (.cells #[.bool b, .slice A n c] 25)) (w.heap.size) b A n c := by have := Bx.new w b A n c; simpa using this
    replace x_m := x_m.alloc (.cells #[.bool false, .slice none 0 0] 25)
    have x_r : Bx ((w.alloc (.cells #[.bool b, .slice A n c] 25)).alloc (.cells #[.bool false, .slice none 0 0] 25)) (w.heap.size + 1) false none 0 0 := by have := Bx.new (w.alloc (.cells #[.bool b, .slice A n c] 25)) false none 0 0; simpa using this
    have hb : Below w.heap.size w ((w.alloc (.cells #[.bool b, .slice A n c] 25)).alloc (.cells #[.bool false, .slice none 0 0] 25)) := (Below.alloc (Below.alloc (Below.refl w.heap.size w) (by simp) (.cells #[.bool b, .slice A n c] 25)) (by simp) (.cells #[.bool false, .slice none 0 0] 25))
    generalize (w.alloc (.cells #[.bool b, .slice A n c] 25)).alloc (.cells #[.bool false, .slice none 0 0] 25) = v1 at *
    replace h := h.keep hb
    have q_m := x_m.al
    have q_r := x_r.al
    go_wp2_with fail
    with_reducible refine (ZShl_any h q k hk hj).mono ?_
    rintro e v2 ⟨A3, n3, c3, rfl, z3, hb1⟩
    obtain ⟨x_m, x_r, h⟩ := mv3 hb1 x_m x_r h
    replace hb := bthen hb hb1
    clear hb1
    replace q_m := x_m.al
    replace q_r := x_r.al
    rw [HV.out] at z3 ⊢
    go_wp2
    replace x_m := x_m.aside (b' := (ngB (flI X q))) (A' := A3) (n' := n3) (c' := c3) (g := w.heap.size + 1) (by omega)
    replace h := h.put (b' := (ngB (flI X q))) (A' := A3) (n' := n3) (c' := c3) x_r
    replace z3 := z3.put (b' := (ngB (flI X q))) (A' := A3) (n' := n3) (c' := c3) x_r
    replace hb := put_below (g := w.heap.size + 1) hb (by omega) (.bool (ngB (flI X q))) (.slice A3 n3 c3)
    replace x_r := x_r.put (ngB (flI X q)) A3 n3 c3
    clear q_m q_r
    generalize (v2.setCell ⟨w.heap.size + 1, 0, none⟩ (.bool (ngB (flI X q)))).setCell ⟨w.heap.size + 1, 1, none⟩ (.slice A3 n3 c3) = v3 at *
    have q_m := x_m.al
    have q_r := x_r.al
    refine bodyPost_ret (v := .agg #[.bool (ngB (flI X q)), .slice A3 n3 c3]) (by simp [results, Try.results65, go_sem, q_r]) rfl ?_
    exact ⟨_, _, _, rfl, z3, hb⟩

set_option maxRecDepth 100000 in
set_option maxHeartbeats 1000000 in
theorem DFloor_any {b : Bool} {A : Option Addr} {n c : Nat} {X e : Int} {j : Nat} {w : World} (h : Zr w b A n c X j) (q : Int) (k : Nat) (hk : j + 128 ≤ k) (hj : k ≤ 1000000) :
    Calls Try.prog 46 #[.agg #[.bool b, .slice A n c, .int .i64 e], .int .i64 q] w (OutZ w (flI (cM X e) (cE e + li q)) k) := by
  have hc := cE_in e
  have hl := li_in q
  have hwr : IntKind.i64.wrap (cE e + li q) = cE e + li q := wrap_in (by omega) (by omega)
  go_enter Try.func46, Try.ntmps46
  go_wp2_with fail
  have x_a : Dx (w.alloc (.cells #[.bool b, .slice A n c, .int .i64 e] 49)) (w.heap.size) b A n c e := by have := Dx.new w b A n c e; simpa using this
  replace x_a := x_a.alloc (.cells #[.bool false, .slice none 0 0] 25)
  have x_r : Bx ((w.alloc (.cells #[.bool b, .slice A n c, .int .i64 e] 49)).alloc (.cells #[.bool false, .slice none 0 0] 25)) (w.heap.size + 1) false none 0 0 := by have := Bx.new (w.alloc (.cells #[.bool b, .slice A n c, .int .i64 e] 49)) false none 0 0; simpa using this
  have hb : Below w.heap.size w ((w.alloc (.cells #[.bool b, .slice A n c, .int .i64 e] 49)).alloc (.cells #[.bool false, .slice none 0 0] 25)) := (Below.alloc (Below.alloc (Below.refl w.heap.size w) (by simp) (.cells #[.bool b, .slice A n c, .int .i64 e] 49)) (by simp) (.cells #[.bool false, .slice none 0 0] 25))
  generalize (w.alloc (.cells #[.bool b, .slice A n c, .int .i64 e] 49)).alloc (.cells #[.bool false, .slice none 0 0] 25) = v1 at *
  replace h := h.keep hb
  have q_a := x_a.al
  have q_r := x_r.al
  go_wp2_with fail
  with_reducible refine (read_any h).mono ?_
  rintro e v2 ⟨b1, A1, n1, c1, rfl, zc, hb1⟩
  obtain ⟨x_a, x_r, h⟩ := mv3 hb1 x_a x_r h
  replace hb := bthen hb hb1
  clear hb1
  replace q_a := x_a.al
  replace q_r := x_r.al
  clear h
  go_wp2_with fail
  replace x_r := x_r.asideD (b' := b1) (A' := A1) (n' := n1) (c' := c1) (e' := (cE e)) (g := w.heap.size) (by omega)
  replace zc := zc.putD (b' := b1) (A' := A1) (n' := n1) (c' := c1) (e' := (cE e)) x_a
  replace hb := put_belowD (g := w.heap.size) hb (by omega) (.bool b1) (.slice A1 n1 c1) (.int .i64 (cE e))
  replace x_a := x_a.put b1 A1 n1 c1 (cE e)
  clear q_a q_r
  generalize ((v2.setCell ⟨w.heap.size, 0, none⟩ (.bool b1)).setCell ⟨w.heap.size, 1, none⟩ (.slice A1 n1 c1)).setCell ⟨w.heap.size, 2, none⟩ (.int .i64 (cE e)) = v3 at *
  have q_a := x_a.al
  have q_r := x_r.al
  go_region_held3 (fun w' => w'.cell? ⟨w.heap.size, 0, none⟩ = some (.bool b1) ∧ w'.cell? ⟨w.heap.size, 1, none⟩ = some (.slice A1 n1 c1) ∧ w'.cell? ⟨w.heap.size, 2, none⟩ = some (.int .i64 (cE e)))
    (first | (with_reducible exact ⟨x_a.c0, x_a.c1, x_a.c2⟩) | (with_reducible exact ⟨(x_a.aside (by omega)).c0, (x_a.aside (by omega)).c1, (x_a.aside (by omega)).c2⟩) | (with_reducible exact ⟨((x_a.aside (by omega)).aside (by omega)).c0, ((x_a.aside (by omega)).aside (by omega)).c1, ((x_a.aside (by omega)).aside (by omega)).c2⟩) | (with_reducible exact ⟨(x_a.asideD (by omega)).c0, (x_a.asideD (by omega)).c1, (x_a.asideD (by omega)).c2⟩) | (with_reducible exact ⟨((x_a.asideD (by omega)).asideD (by omega)).c0, ((x_a.asideD (by omega)).asideD (by omega)).c1, ((x_a.asideD (by omega)).asideD (by omega)).c2⟩) | go_keep)
    (first | (go_at_call 66; (with_reducible refine (limit_bel q _).mono ?_); rintro e v4 ⟨rfl, hb1⟩; replace hb1 := undrew hb1; obtain ⟨x_a, x_r, zc⟩ := mv3 hb1 x_a x_r zc; replace hb := bthen hb hb1; clear hb1; replace q_a := x_a.al; replace q_r := x_r.al) | (go_at_call 65; (with_reducible refine (floorShift_any zc (cE e + li q) (by omega) k hk hj).mono ?_); rintro e v5 ⟨A3, n3, c3, rfl, z3, hb1⟩; obtain ⟨x_a, x_r, zc⟩ := mv3 hb1 x_a x_r zc; replace hb := bthen hb hb1; clear hb1; replace q_a := x_a.al; replace q_r := x_r.al))
  go_wp2
  replace x_a := x_a.aside (b' := (ngB (flI (cM X e) (cE e + li q)))) (A' := A3) (n' := n3) (c' := c3) (g := w.heap.size + 1) (by omega)
  replace zc := zc.put (b' := (ngB (flI (cM X e) (cE e + li q)))) (A' := A3) (n' := n3) (c' := c3) x_r
  replace z3 := z3.put (b' := (ngB (flI (cM X e) (cE e + li q)))) (A' := A3) (n' := n3) (c' := c3) x_r
  replace hb := put_below (g := w.heap.size + 1) hb (by omega) (.bool (ngB (flI (cM X e) (cE e + li q)))) (.slice A3 n3 c3)
  replace x_r := x_r.put (ngB (flI (cM X e) (cE e + li q))) A3 n3 c3
  clear q_a q_r
  generalize (v5.setCell ⟨w.heap.size + 1, 0, none⟩ (.bool (ngB (flI (cM X e) (cE e + li q))))).setCell ⟨w.heap.size + 1, 1, none⟩ (.slice A3 n3 c3) = v6 at *
  have q_a := x_a.al
  have q_r := x_r.al
  refine bodyPost_ret (v := .agg #[.bool (ngB (flI (cM X e) (cE e + li q))), .slice A3 n3 c3]) (by simp [results, Try.results46, go_sem, q_r]) rfl ?_
  exact ⟨_, _, _, rfl, z3, hb⟩

set_option maxRecDepth 100000 in
set_option maxHeartbeats 1000000 in
theorem DCeil_any {b : Bool} {A : Option Addr} {n c : Nat} {X e : Int} {j : Nat} {w : World} (h : Zr w b A n c X j) (q : Int) (k : Nat) (hk : j + 128 ≤ k) (hj : k ≤ 1000000) :
    Calls Try.prog 47 #[.agg #[.bool b, .slice A n c, .int .i64 e], .int .i64 q] w (OutZ w (-flI (-cM X e) (cE e + li q)) k) := by
  have hc := cE_in e
  have hl := li_in q
  have hwr : IntKind.i64.wrap (cE e + li q) = cE e + li q := wrap_in (by omega) (by omega)
  go_enter Try.func47, Try.ntmps47
  go_wp2_with fail
  have x_a : Dx (w.alloc (.cells #[.bool b, .slice A n c, .int .i64 e] 49)) (w.heap.size) b A n c e := by have := Dx.new w b A n c e; simpa using this
  replace x_a := x_a.alloc (.cells #[.bool false, .slice none 0 0] 25)
  have x_r : Bx ((w.alloc (.cells #[.bool b, .slice A n c, .int .i64 e] 49)).alloc (.cells #[.bool false, .slice none 0 0] 25)) (w.heap.size + 1) false none 0 0 := by have := Bx.new (w.alloc (.cells #[.bool b, .slice A n c, .int .i64 e] 49)) false none 0 0; simpa using this
  have hb : Below w.heap.size w ((w.alloc (.cells #[.bool b, .slice A n c, .int .i64 e] 49)).alloc (.cells #[.bool false, .slice none 0 0] 25)) := (Below.alloc (Below.alloc (Below.refl w.heap.size w) (by simp) (.cells #[.bool b, .slice A n c, .int .i64 e] 49)) (by simp) (.cells #[.bool false, .slice none 0 0] 25))
  generalize (w.alloc (.cells #[.bool b, .slice A n c, .int .i64 e] 49)).alloc (.cells #[.bool false, .slice none 0 0] 25) = v1 at *
  replace h := h.keep hb
  have q_a := x_a.al
  have q_r := x_r.al
  go_wp2_with fail
  with_reducible refine (read_any h).mono ?_
  rintro e v2 ⟨b1, A1, n1, c1, rfl, zc, hb1⟩
  obtain ⟨x_a, x_r, h⟩ := mv3 hb1 x_a x_r h
  replace hb := bthen hb hb1
  clear hb1
  replace q_a := x_a.al
  replace q_r := x_r.al
  clear h
  go_wp2_with fail
  replace x_r := x_r.asideD (b' := b1) (A' := A1) (n' := n1) (c' := c1) (e' := (cE e)) (g := w.heap.size) (by omega)
  replace zc := zc.putD (b' := b1) (A' := A1) (n' := n1) (c' := c1) (e' := (cE e)) x_a
  replace hb := put_belowD (g := w.heap.size) hb (by omega) (.bool b1) (.slice A1 n1 c1) (.int .i64 (cE e))
  replace x_a := x_a.put b1 A1 n1 c1 (cE e)
  clear q_a q_r
  generalize ((v2.setCell ⟨w.heap.size, 0, none⟩ (.bool b1)).setCell ⟨w.heap.size, 1, none⟩ (.slice A1 n1 c1)).setCell ⟨w.heap.size, 2, none⟩ (.int .i64 (cE e)) = v3 at *
  have q_a := x_a.al
  have q_r := x_r.al
  go_region_held3 (fun w' => w'.cell? ⟨w.heap.size, 0, none⟩ = some (.bool b1) ∧ w'.cell? ⟨w.heap.size, 1, none⟩ = some (.slice A1 n1 c1) ∧ w'.cell? ⟨w.heap.size, 2, none⟩ = some (.int .i64 (cE e)))
    (first | (with_reducible exact ⟨x_a.c0, x_a.c1, x_a.c2⟩) | (with_reducible exact ⟨(x_a.aside (by omega)).c0, (x_a.aside (by omega)).c1, (x_a.aside (by omega)).c2⟩) | (with_reducible exact ⟨((x_a.aside (by omega)).aside (by omega)).c0, ((x_a.aside (by omega)).aside (by omega)).c1, ((x_a.aside (by omega)).aside (by omega)).c2⟩) | (with_reducible exact ⟨(x_a.asideD (by omega)).c0, (x_a.asideD (by omega)).c1, (x_a.asideD (by omega)).c2⟩) | (with_reducible exact ⟨((x_a.asideD (by omega)).asideD (by omega)).c0, ((x_a.asideD (by omega)).asideD (by omega)).c1, ((x_a.asideD (by omega)).asideD (by omega)).c2⟩) | go_keep)
    (first | (go_at_call 67; (with_reducible refine (ZNeg_any zc.drw j (Nat.le_refl _)).mono ?_); rintro e v4 ⟨A2, n2, c2, rfl, z1, hb1⟩; replace hb1 := undrew hb1; obtain ⟨x_a, x_r, zc⟩ := mv3 hb1 x_a x_r zc; replace hb := bthen hb hb1; clear hb1; replace q_a := x_a.al; replace q_r := x_r.al) | (go_at_call 66; (with_reducible refine (limit_bel q _).mono ?_); rintro e v5 ⟨rfl, hb1⟩; obtain ⟨x_a, x_r, zc, z1⟩ := mv4 hb1 x_a x_r zc z1; replace hb := bthen hb hb1; clear hb1; replace q_a := x_a.al; replace q_r := x_r.al) | (go_at_call 65; (with_reducible refine (floorShift_any z1.zr (cE e + li q) (by omega) k hk hj).mono ?_); rintro e v6 ⟨A3, n3, c3, rfl, z3, hb1⟩; obtain ⟨x_a, x_r, zc, z1⟩ := mv4 hb1 x_a x_r zc z1; replace hb := bthen hb hb1; clear hb1; replace q_a := x_a.al; replace q_r := x_r.al) | (go_at_call 67; (with_reducible refine (ZNeg_any z3.zr k (Nat.le_refl _)).mono ?_); rintro e v7 ⟨A4, n4, c4, rfl, z4, hb1⟩; obtain ⟨x_a, x_r, zc, z1, z3⟩ := mv5 hb1 x_a x_r zc z1 z3; replace hb := bthen hb hb1; clear hb1; replace q_a := x_a.al; replace q_r := x_r.al))
  go_wp2
  replace x_a := x_a.aside (b' := (ngB (-flI (-cM X e) (cE e + li q)))) (A' := A4) (n' := n4) (c' := c4) (g := w.heap.size + 1) (by omega)
  replace zc := zc.put (b' := (ngB (-flI (-cM X e) (cE e + li q)))) (A' := A4) (n' := n4) (c' := c4) x_r
  replace z1 := z1.put (b' := (ngB (-flI (-cM X e) (cE e + li q)))) (A' := A4) (n' := n4) (c' := c4) x_r
  replace z3 := z3.put (b' := (ngB (-flI (-cM X e) (cE e + li q)))) (A' := A4) (n' := n4) (c' := c4) x_r
  replace z4 := z4.put (b' := (ngB (-flI (-cM X e) (cE e + li q)))) (A' := A4) (n' := n4) (c' := c4) x_r
  replace hb := put_below (g := w.heap.size + 1) hb (by omega) (.bool (ngB (-flI (-cM X e) (cE e + li q)))) (.slice A4 n4 c4)
  replace x_r := x_r.put (ngB (-flI (-cM X e) (cE e + li q))) A4 n4 c4
  clear q_a q_r
  generalize (v7.setCell ⟨w.heap.size + 1, 0, none⟩ (.bool (ngB (-flI (-cM X e) (cE e + li q))))).setCell ⟨w.heap.size + 1, 1, none⟩ (.slice A4 n4 c4) = v8 at *
  have q_a := x_a.al
  have q_r := x_r.al
  refine bodyPost_ret (v := .agg #[.bool (ngB (-flI (-cM X e) (cE e + li q))), .slice A4 n4 c4]) (by simp [results, Try.results47, go_sem, q_r]) rfl ?_
  exact ⟨_, _, _, rfl, z4, hb⟩
end
end Go.Proofs.Ytiikmjnnlckiiaa
