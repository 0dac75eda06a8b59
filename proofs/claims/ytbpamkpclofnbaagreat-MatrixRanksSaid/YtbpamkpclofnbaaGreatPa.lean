/-
  shiftUp, shiftDown.
-/
import Derived.Test.YtbpamkpclofnbaaGreatRows
import Derived.WalkKit
import Derived.WalkSpells
import Derived.WalkLawsBesides
import Derived.Laws.BitsAllLaws
import Derived.Laws.OwnMore
import Derived.Deep.Draws
import Derived.Laws.Rows
import Derived.Lib.Hide
import Derived.Laws.CopyOwn
import Derived.Deep.QuietTactic
import Derived.BigQuiet
import Derived.BigRegion
import Derived.Deep.RegionWith
import Derived.Deep.RegionHeld3
import Derived.StillTailTactics
namespace Go.Proofs.YtbpamkpclofnbaaGreat
section
set_option maxRecDepth 100000
/-- The value of a list of digits. -/
def vl (b : Nat) : List Int → Nat
  | [] => 0
  | x :: l => x.toNat + b * vl b l

/-- All digits lie below the base. -/
def Lim (b : Nat) (l : List Int) : Prop := ∀ x ∈ l, 0 ≤ x ∧ x < (b : Int)

/-- The digits of a number, without noughts on top. -/
def dg (b n : Nat) : List Int := if _h : n = 0 ∨ b < 2 then [] else ((n % b : Nat) : Int) :: dg b (n / b)
termination_by n
decreasing_by exact Nat.div_lt_self (by omega) (by omega)

theorem dg_zero (b : Nat) : dg b 0 = [] := by rw [dg]; simp
theorem dg_pos {b n : Nat} (hb : 2 ≤ b) (hn : 0 < n) : dg b n = ((n % b : Nat) : Int) :: dg b (n / b) := by
  rw [dg, dif_neg (by omega)]
theorem Lim_nil (b : Nat) : Lim b [] := fun x hx => by cases hx
theorem Lim_cons {b : Nat} {x : Int} {l : List Int} : Lim b (x :: l) ↔ (0 ≤ x ∧ x < (b : Int)) ∧ Lim b l := by simp [Lim]
theorem Lim_append {b : Nat} {l m : List Int} : Lim b (l ++ m) ↔ Lim b l ∧ Lim b m := by
  simp only [Lim, List.mem_append]
  exact ⟨fun h => ⟨fun x hx => h x (.inl hx), fun x hx => h x (.inr hx)⟩, fun h x hx => hx.elim (h.1 x) (h.2 x)⟩
theorem Lim.take {b : Nat} {l : List Int} (h : Lim b l) (k : Nat) : Lim b (l.take k) := fun x hx => h x (List.mem_of_mem_take hx)
theorem Lim.drop {b : Nat} {l : List Int} (h : Lim b l) (k : Nat) : Lim b (l.drop k) := fun x hx => h x (List.mem_of_mem_drop hx)
theorem Lim.get {b : Nat} {l : List Int} (h : Lim b l) {k : Nat} (hk : k < l.length) : 0 ≤ l[k] ∧ l[k] < (b : Int) := h _ (List.getElem_mem hk)
theorem Lim.getD {b : Nat} {l : List Int} (h : Lim b l) (hb : 0 < b) (k : Nat) : 0 ≤ l.getD k 0 ∧ l.getD k 0 < (b : Int) := by
  by_cases hk : k < l.length
  · have := h.get hk; simpa [List.getD, List.getElem?_eq_getElem hk] using this
  · have hn : l[k]? = none := List.getElem?_eq_none (by omega)
    simp [List.getD, hn]; omega
theorem Lim.set {b : Nat} {l : List Int} (h : Lim b l) (k : Nat) {x : Int} (hx : 0 ≤ x ∧ x < (b : Int)) : Lim b (l.set k x) := fun y hy => by
  rcases List.mem_or_eq_of_mem_set hy with h1 | h1
  · exact h y h1
  · exact h1 ▸ hx
theorem Lim_replicate {b : Nat} (hb : 0 < b) (n : Nat) : Lim b (List.replicate n 0) := fun x hx => by
  have := List.eq_of_mem_replicate hx; omega

theorem vl_append (b : Nat) (l m : List Int) : vl b (l ++ m) = vl b l + b ^ l.length * vl b m := by
  induction l with
  | nil => simp [vl]
  | cons x l ih => simp only [List.cons_append, vl, ih, List.length_cons, Nat.pow_succ]; rw [Nat.mul_add, ← Nat.mul_assoc, Nat.mul_comm b (b ^ l.length)]; omega
theorem vl_replicate (b n : Nat) : vl b (List.replicate n 0) = 0 := by
  induction n with
  | zero => rfl
  | succ n ih => simp [List.replicate_succ, vl, ih]
theorem vl_lt {b : Nat} {l : List Int} (h : Lim b l) : vl b l < b ^ l.length := by
  induction l with
  | nil => simp [vl]
  | cons x l ih =>
    rw [Lim_cons] at h
    have h2 := ih h.2
    have h3 : b * (vl b l + 1) ≤ b * b ^ l.length := Nat.mul_le_mul_left _ h2
    rw [List.length_cons, Nat.pow_succ, vl, Nat.mul_comm (b ^ l.length)]
    rw [Nat.mul_add] at h3
    omega
theorem vl_split (b : Nat) (l : List Int) (k : Nat) (hk : k ≤ l.length) : vl b l = vl b (l.take k) + b ^ k * vl b (l.drop k) := by
  have := vl_append b (l.take k) (l.drop k)
  rw [List.take_append_drop, List.length_take, Nat.min_eq_left hk] at this
  exact this
theorem vl_take_succ (b : Nat) (l : List Int) (k : Nat) (hk : k < l.length) : vl b (l.take (k + 1)) = vl b (l.take k) + b ^ k * l[k].toNat := by
  rw [List.take_succ_eq_append_getElem hk, vl_append]
  simp [vl, Nat.min_eq_left (Nat.le_of_lt hk)]
theorem drop_cons {l : List Int} {k : Nat} (hk : k < l.length) : l.drop k = l[k] :: l.drop (k + 1) := by simp
theorem vl_drop_step (b : Nat) (l : List Int) (k : Nat) (hk : k < l.length) : vl b (l.drop k) = l[k].toNat + b * vl b (l.drop (k + 1)) := by
  rw [drop_cons hk]; rfl
theorem vl_zeros {b : Nat} {l : List Int} (h : ∀ x ∈ l, x = 0) : vl b l = 0 := by
  induction l with
  | nil => rfl
  | cons x l ih => simp only [vl]; rw [ih (fun y hy => h y (by simp [hy])), h x (by simp)]; simp

theorem vl_dg {b : Nat} (hb : 2 ≤ b) (n : Nat) : vl b (dg b n) = n := by
  induction n using Nat.strongRecOn with
  | ind n ih =>
    by_cases hn : n = 0
    · subst hn; rw [dg_zero]; rfl
    · rw [dg_pos hb (by omega), vl, ih _ (Nat.div_lt_self (by omega) (by omega))]
      have := Nat.mod_add_div n b
      omega
theorem Lim_dg {b : Nat} (hb : 2 ≤ b) (n : Nat) : Lim b (dg b n) := by
  induction n using Nat.strongRecOn with
  | ind n ih =>
    by_cases hn : n = 0
    · subst hn; rw [dg_zero]; exact Lim_nil b
    · rw [dg_pos hb (by omega), Lim_cons]
      have := Nat.mod_lt n (show 0 < b by omega)
      exact ⟨by omega, ih _ (Nat.div_lt_self (by omega) (by omega))⟩
theorem dg_len_le {b : Nat} (hb : 2 ≤ b) {n k : Nat} (h : n < b ^ k) : (dg b n).length ≤ k := by
  induction k generalizing n with
  | zero => simp at h; subst h; rw [dg_zero]; simp
  | succ k ih =>
    by_cases hn : n = 0
    · subst hn; rw [dg_zero]; simp
    · rw [dg_pos hb (by omega), List.length_cons]
      have : n / b < b ^ k := by rw [Nat.div_lt_iff_lt_mul (by omega), ← Nat.pow_succ]; exact h
      have := ih this
      omega
theorem dg_eq_nil {b : Nat} (hb : 2 ≤ b) {n : Nat} : dg b n = [] ↔ n = 0 := by
  constructor
  · intro h
    have := vl_dg hb n
    rw [h] at this
    simpa [vl] using this.symm
  · rintro rfl; exact dg_zero b
/-- A list without a nought on top is the digits of its value. -/
theorem dg_of {b : Nat} (hb : 2 ≤ b) {l : List Int} (h : Lim b l) (ht : ∀ x, l.getLast? = some x → x ≠ 0) : dg b (vl b l) = l := by
  induction l with
  | nil => exact dg_zero b
  | cons x l ih =>
    rw [Lim_cons] at h
    have hx : (x.toNat : Int) = x := by omega
    have hxb : x.toNat < b := by omega
    have hl : dg b (vl b l) = l := ih h.2 (fun y hy => ht y (by
      cases l with
      | nil => simp at hy
      | cons z l => simpa using hy))
    have hpos : 0 < vl b (x :: l) := by
      rcases Nat.eq_zero_or_pos (vl b (x :: l)) with h0 | h0
      · exfalso
        simp only [vl] at h0
        have h1 : x.toNat = 0 := by omega
        have h2 : b * vl b l = 0 := by omega
        have h3 : vl b l = 0 := by rcases Nat.mul_eq_zero.1 h2 with h | h <;> omega
        rw [h3, dg_zero] at hl
        subst hl
        exact ht x (by simp) (by omega)
      · exact h0
    rw [dg_pos hb hpos]
    have e1 : vl b (x :: l) % b = x.toNat := by simp only [vl]; rw [Nat.add_mul_mod_self_left]; exact Nat.mod_eq_of_lt hxb
    have e2 : vl b (x :: l) / b = vl b l := by
      simp only [vl]; rw [Nat.add_mul_div_left _ _ (by omega), Nat.div_eq_of_lt hxb]; omega
    rw [e1, e2, hl, hx]
/-- What is left of a list without its noughts on top. -/
theorem dg_take {b : Nat} (hb : 2 ≤ b) {l : List Int} (h : Lim b l) {m : Nat} (hm : m ≤ l.length) (hz : ∀ j (hj : j < l.length), m ≤ j → l[j] = 0)
    (ht : ∀ h : 0 < m, l[m - 1] ≠ 0) : dg b (vl b l) = l.take m := by
  have hv : vl b (l.drop m) = 0 := vl_zeros fun x hx => by
    obtain ⟨i, hi, rfl⟩ := List.mem_iff_getElem.1 hx
    rw [List.getElem_drop]; exact hz _ _ (by omega)
  rw [vl_split b l m hm, hv, Nat.mul_zero, Nat.add_zero]
  refine dg_of hb (h.take m) fun x hx => ?_
  rcases Nat.eq_zero_or_pos m with h0 | h0
  · subst h0; simp at hx
  · have hmm : m - 1 < l.length := by omega
    have : (l.take m).getLast? = some l[m - 1] := by
      rw [List.getLast?_eq_getElem?, List.length_take, Nat.min_eq_left hm, List.getElem?_take_of_lt (by omega), List.getElem?_eq_getElem hmm]
    rw [this] at hx
    injection hx with hx
    subst hx
    exact ht h0
theorem dg_last {b : Nat} (hb : 2 ≤ b) {n : Nat} (hn : 0 < (dg b n).length) : (dg b n)[(dg b n).length - 1] ≠ 0 := by
  intro h0
  have hl : Lim b (dg b n) := Lim_dg hb n
  have h1 := vl_split b (dg b n) ((dg b n).length - 1) (by omega)
  have h2 : vl b ((dg b n).drop ((dg b n).length - 1)) = 0 := by
    rw [vl_drop_step b _ _ (by omega), h0, List.drop_eq_nil_of_le (by omega)]; simp [vl]
  rw [h2, vl_dg hb] at h1
  have h3 := vl_lt (hl.take ((dg b n).length - 1))
  rw [List.length_take, Nat.min_eq_left (by omega)] at h3
  have h4 := dg_len_le hb (n := n) (k := (dg b n).length - 1) (by omega)
  omega
theorem dg_len_ge {b : Nat} (hb : 2 ≤ b) {n : Nat} (hn : 0 < (dg b n).length) : b ^ ((dg b n).length - 1) ≤ n := by
  have h1 := vl_split b (dg b n) ((dg b n).length - 1) (by omega)
  have hl := dg_last hb hn
  have hg := (Lim_dg hb n).get (show (dg b n).length - 1 < (dg b n).length by omega)
  rw [vl_drop_step b _ _ (by omega), vl_dg hb] at h1
  have h5 : b ^ ((dg b n).length - 1) * 1 ≤ b ^ ((dg b n).length - 1) * ((dg b n)[(dg b n).length - 1].toNat + b * vl b ((dg b n).drop ((dg b n).length - 1 + 1))) := Nat.mul_le_mul_left _ (by omega)
  omega
theorem dg_len_mono {b : Nat} (hb : 2 ≤ b) {m n : Nat} (h : m ≤ n) : (dg b m).length ≤ (dg b n).length := by
  refine dg_len_le hb ?_
  have := vl_lt (Lim_dg hb n)
  rw [vl_dg hb] at this
  omega
theorem dg_inj {b : Nat} (hb : 2 ≤ b) {m n : Nat} (h : dg b m = dg b n) : m = n := by rw [← vl_dg hb m, h, vl_dg hb]
theorem vl_set (b : Nat) (l : List Int) (k : Nat) (hk : k < l.length) (x : Int) : vl b (l.set k x) + b ^ k * l[k].toNat = vl b l + b ^ k * x.toNat := by
  have h1 := vl_split b l k (by omega)
  have h2 := vl_split b (l.set k x) k (by simp; omega)
  rw [vl_drop_step b l k hk] at h1
  rw [vl_drop_step b (l.set k x) k (by simpa using hk)] at h2
  have e1 : (l.set k x).take k = l.take k := by rw [List.take_set_of_le (Nat.le_refl k)]
  have e2 : (l.set k x).drop (k + 1) = l.drop (k + 1) := by rw [List.drop_set_of_lt (by omega)]
  rw [e1, e2, List.getElem_set_self, Nat.mul_add] at h2
  rw [Nat.mul_add] at h1
  omega
end
end Go.Proofs.YtbpamkpclofnbaaGreat
namespace Go.Proofs.YtbpamkpclofnbaaGreat
section
set_option maxRecDepth 100000
open Go.RowKit

def Wd : Nat := 18446744073709551616
theorem Wd_eq : Wd = 18446744073709551616 := rfl
theorem Wd2 : 2 ≤ Wd := by decide
theorem Wd_pow : Wd = 2 ^ 64 := by decide

/-- A limb. -/
def Lm (x : Int) : Prop := 0 ≤ x ∧ x < (Wd : Int)
/-- A carry. -/
def Cr (c : Int) : Prop := c = 0 ∨ c = 1
theorem Cr_zero : Cr 0 := .inl rfl
theorem Lm_zero : Lm 0 := ⟨by omega, by rw [Wd_eq]; omega⟩
def addS (x y c : Int) : Int := (x + y + c) % (Wd : Int)
def addC (x y c : Int) : Int := (x + y + c) / (Wd : Int)
def subS (x y c : Int) : Int := (x - y - c) % (Wd : Int)
def subC (x y c : Int) : Int := -((x - y - c) / (Wd : Int))
def mulH (x y : Int) : Int := x * y / (Wd : Int)
def mulL (x y : Int) : Int := x * y % (Wd : Int)

theorem wrap_u64 (n : Int) : IntKind.u64.wrap n = n % 18446744073709551616 := by simp [IntKind.wrap, IntKind.bits, IntKind.signed]

theorem top_and (a b : Nat) : (a &&& b) / 9223372036854775808 = (a / 9223372036854775808) &&& (b / 9223372036854775808) := by
  have := Nat.shiftRight_and_distrib (a := a) (b := b) (i := 63)
  simpa [Nat.shiftRight_eq_div_pow] using this
theorem top_or (a b : Nat) : (a ||| b) / 9223372036854775808 = (a / 9223372036854775808) ||| (b / 9223372036854775808) := by
  have := Nat.shiftRight_or_distrib (a := a) (b := b) (i := 63)
  simpa [Nat.shiftRight_eq_div_pow] using this

theorem addLimb_carry (x y s : Nat) (hx : x < 18446744073709551616) (hy : y < 18446744073709551616) (c : Nat) (hc : c ≤ 1) (hs : s = (x + y + c) % 18446744073709551616) :
    bits .or .u64 (bits .and .u64 (x : Int) (y : Int)) (bits .andNot .u64 (bits .or .u64 (x : Int) (y : Int)) (s : Int)) / 9223372036854775808 = (((x + y + c) / 18446744073709551616 : Nat) : Int) := by
  have hsl : s < 18446744073709551616 := by omega
  rw [u64_and_nat x y hx hy, u64_or_nat x y hx hy]
  have h1 : x ||| y < 18446744073709551616 := Nat.or_lt_two_pow (n := 64) hx hy
  have h2 : x &&& y < 18446744073709551616 := Nat.and_lt_two_pow (n := 64) _ hy
  rw [u64_andNot_nat _ s h1 hsl]
  have h3 : (x ||| y) &&& (18446744073709551615 - s) < 18446744073709551616 := Nat.and_lt_two_pow (n := 64) _ (by omega)
  rw [u64_or_nat _ _ h2 h3]
  have e : ∀ n : Nat, ((n : Int) / 9223372036854775808) = ((n / 9223372036854775808 : Nat) : Int) := fun n => by omega
  rw [e, top_or, top_and, top_and, top_or]
  congr 1
  have b1 : x / 9223372036854775808 = 0 ∨ x / 9223372036854775808 = 1 := by omega
  have b2 : y / 9223372036854775808 = 0 ∨ y / 9223372036854775808 = 1 := by omega
  have b3 : (18446744073709551615 - s) / 9223372036854775808 = 0 ∨ (18446744073709551615 - s) / 9223372036854775808 = 1 := by omega
  rcases b1 with b1 | b1 <;> rcases b2 with b2 | b2 <;> rcases b3 with b3 | b3 <;> simp only [b1, b2, b3, Nat.reduceAnd, Nat.reduceOr] <;> omega

theorem subLimb_carry (x y s : Nat) (hx : x < 18446744073709551616) (hy : y < 18446744073709551616) (c : Nat) (hc : c ≤ 1) (hs : (s : Int) = ((x : Int) - y - c) % 18446744073709551616) :
    bits .or .u64 (bits .and .u64 (bits .xor .u64 IntKind.u64.max (x : Int)) (y : Int)) (bits .and .u64 (bits .or .u64 (bits .xor .u64 IntKind.u64.max (x : Int)) (y : Int)) (s : Int)) / 9223372036854775808
      = -(((x : Int) - y - c) / 18446744073709551616) := by
  have hsl : s < 18446744073709551616 := by omega
  have em : IntKind.u64.max = ((18446744073709551615 : Nat) : Int) := by simp [IntKind.max, IntKind.bits, IntKind.signed]
  have ex : 18446744073709551615 ^^^ x = 18446744073709551615 - x := by
    have := Nat.xor_comm
    apply Nat.eq_of_testBit_eq
    intro i
    have h2 : 18446744073709551615 - x = 2 ^ 64 - (x + 1) := by omega
    rw [h2, Nat.testBit_two_pow_sub_succ (by omega), Nat.testBit_xor]
    have h3 : (18446744073709551615 : Nat) = 2 ^ 64 - 1 := by omega
    rw [h3, Nat.testBit_two_pow_sub_one]
    by_cases hi : i < 64
    · simp [hi]
    · have : x.testBit i = false := Nat.testBit_lt_two_pow (Nat.lt_of_lt_of_le hx (Nat.pow_le_pow_right (n := 2) (by omega) (show 64 ≤ i by omega)))
      simp [hi, this]
  rw [em, u64_xor_nat _ x (by omega) hx, ex]
  have hn : 18446744073709551615 - x < 18446744073709551616 := by omega
  rw [u64_and_nat _ y hn hy, u64_or_nat _ y hn hy]
  have h1 : (18446744073709551615 - x) ||| y < 18446744073709551616 := Nat.or_lt_two_pow (n := 64) hn hy
  have h2 : (18446744073709551615 - x) &&& y < 18446744073709551616 := Nat.and_lt_two_pow (n := 64) _ hy
  rw [u64_and_nat _ s h1 hsl]
  have h3 : ((18446744073709551615 - x) ||| y) &&& s < 18446744073709551616 := Nat.and_lt_two_pow (n := 64) _ hsl
  rw [u64_or_nat _ _ h2 h3]
  have e : ∀ n : Nat, ((n : Int) / 9223372036854775808) = ((n / 9223372036854775808 : Nat) : Int) := fun n => by omega
  rw [e, top_or, top_and, top_and, top_or]
  have b1 : (18446744073709551615 - x) / 9223372036854775808 = 0 ∨ (18446744073709551615 - x) / 9223372036854775808 = 1 := by omega
  have b2 : y / 9223372036854775808 = 0 ∨ y / 9223372036854775808 = 1 := by omega
  have b3 : s / 9223372036854775808 = 0 ∨ s / 9223372036854775808 = 1 := by omega
  rcases b1 with b1 | b1 <;> rcases b2 with b2 | b2 <;> rcases b3 with b3 | b3 <;> simp only [b1, b2, b3, Nat.reduceAnd, Nat.reduceOr] <;> omega

theorem addS_eq (x y c : Int) : IntKind.u64.wrap (IntKind.u64.wrap (x + y) + c) = addS x y c := by
  simp only [wrap_u64, addS, Wd_eq]; omega
theorem addC_eq (x y c : Int) (hx : Lm x) (hy : Lm y) (hc : Cr c) :
    bits .or .u64 (bits .and .u64 x y) (bits .andNot .u64 (bits .or .u64 x y) (addS x y c)) / 9223372036854775808 = addC x y c := by
  unfold Lm Cr at *
  rw [Wd_eq] at hx hy
  obtain ⟨a, rfl⟩ := Int.eq_ofNat_of_zero_le hx.1
  obtain ⟨b, rfl⟩ := Int.eq_ofNat_of_zero_le hy.1
  obtain ⟨d, rfl⟩ := Int.eq_ofNat_of_zero_le (show 0 ≤ c by omega)
  have := addLimb_carry a b ((a + b + d) % 18446744073709551616) (by omega) (by omega) d (by omega) rfl
  have e : addS (a : Int) (b : Int) (d : Int) = (((a + b + d) % 18446744073709551616 : Nat) : Int) := by simp only [addS, Wd_eq]; omega
  rw [e, this]
  simp only [addC, Wd_eq]; omega
theorem subS_eq (x y c : Int) : IntKind.u64.wrap (IntKind.u64.wrap (x - y) - c) = subS x y c := by
  simp only [wrap_u64, subS, Wd_eq]; omega
theorem subC_eq (x y c : Int) (hx : Lm x) (hy : Lm y) (hc : Cr c) :
    bits .or .u64 (bits .and .u64 (bits .xor .u64 IntKind.u64.max x) y) (bits .and .u64 (bits .or .u64 (bits .xor .u64 IntKind.u64.max x) y) (subS x y c)) / 9223372036854775808 = subC x y c := by
  unfold Lm Cr at *
  rw [Wd_eq] at hx hy
  obtain ⟨a, rfl⟩ := Int.eq_ofNat_of_zero_le hx.1
  obtain ⟨b, rfl⟩ := Int.eq_ofNat_of_zero_le hy.1
  obtain ⟨d, rfl⟩ := Int.eq_ofNat_of_zero_le (show 0 ≤ c by omega)
  obtain ⟨s, hs⟩ := Int.eq_ofNat_of_zero_le (show 0 ≤ subS (a : Int) (b : Int) (d : Int) by simp only [subS, Wd_eq]; omega)
  have := subLimb_carry a b s (by omega) (by omega) d (by omega) (by rw [← hs]; simp only [subS, Wd_eq]; rfl)
  rw [hs, this]
  simp only [subC, Wd_eq]; rfl

theorem mask32 (x : Int) (h0 : 0 ≤ x) (h1 : x < 18446744073709551616) : bits .and .u64 x 4294967295 = x % 4294967296 := by
  have := bits_mask .u64 64 (by decide) (fun n h0 h1 => by rw [wrap_u64]; omega) 32 (by decide) x h0 (by simpa using h1)
  simpa using this
theorem halves_mul (a b : Int) (ha : 0 ≤ a ∧ a ≤ 4294967295) (hb : 0 ≤ b ∧ b ≤ 4294967295) : 0 ≤ a * b ∧ a * b ≤ 18446744065119617025 := by
  refine ⟨Int.mul_nonneg ha.1 hb.1, ?_⟩
  have := Int.mul_le_mul ha.2 hb.2 hb.1 (by omega)
  omega
theorem mulH_eq (x y : Int) (hx : Lm x) (hy : Lm y) : IntKind.u64.wrap (IntKind.u64.wrap (IntKind.u64.wrap (x / 4294967296 * (y / 4294967296)) +
            IntKind.u64.wrap (IntKind.u64.wrap (x / 4294967296 * bits BinOp.and IntKind.u64 y 4294967295) +
                  IntKind.u64.wrap (bits BinOp.and IntKind.u64 x 4294967295 * bits BinOp.and IntKind.u64 y 4294967295) / 4294967296) / 4294967296) +
        IntKind.u64.wrap (IntKind.u64.wrap (bits BinOp.and IntKind.u64 x 4294967295 * (y / 4294967296)) +
              bits BinOp.and IntKind.u64 (IntKind.u64.wrap (IntKind.u64.wrap (x / 4294967296 * bits BinOp.and IntKind.u64 y 4294967295) +
                    IntKind.u64.wrap (bits BinOp.and IntKind.u64 x 4294967295 * bits BinOp.and IntKind.u64 y 4294967295) / 4294967296)) 4294967295) / 4294967296) = mulH x y := by
  unfold Lm at hx hy
  rw [Wd_eq] at hx hy
  rw [mask32 x hx.1 (by omega), mask32 y hy.1 (by omega)]
  have ex : x = x / 4294967296 * 4294967296 + x % 4294967296 := by omega
  have ey : y = y / 4294967296 * 4294967296 + y % 4294967296 := by omega
  have b1 : 0 ≤ x / 4294967296 ∧ x / 4294967296 ≤ 4294967295 := by omega
  have b2 : 0 ≤ x % 4294967296 ∧ x % 4294967296 ≤ 4294967295 := by omega
  have b3 : 0 ≤ y / 4294967296 ∧ y / 4294967296 ≤ 4294967295 := by omega
  have b4 : 0 ≤ y % 4294967296 ∧ y % 4294967296 ≤ 4294967295 := by omega
  generalize x / 4294967296 = x1 at *
  generalize x % 4294967296 = x0 at *
  generalize y / 4294967296 = y1 at *
  generalize y % 4294967296 = y0 at *
  have m11 := halves_mul x1 y1 b1 b3
  have m10 := halves_mul x1 y0 b1 b4
  have m01 := halves_mul x0 y1 b2 b3
  have m00 := halves_mul x0 y0 b2 b4
  have exy : x * y = x1 * y1 * 18446744073709551616 + (x1 * y0 + x0 * y1) * 4294967296 + x0 * y0 := by
    rw [ex, ey]; simp only [Int.add_mul, Int.mul_add]
    have e1 : x1 * 4294967296 * (y1 * 4294967296) = x1 * y1 * 18446744073709551616 := by
      rw [Int.mul_assoc, Int.mul_comm 4294967296 (y1 * 4294967296), Int.mul_assoc, ← Int.mul_assoc x1 y1]; rfl
    have e2 : x0 * (y1 * 4294967296) = x0 * y1 * 4294967296 := by rw [Int.mul_assoc]
    have e3 : x1 * 4294967296 * y0 = x1 * y0 * 4294967296 := by rw [Int.mul_assoc, Int.mul_comm 4294967296 y0, Int.mul_assoc]
    rw [e1, e2, e3]; omega
  simp only [mulH, Wd_eq]
  rw [exy]
  clear exy ex ey hx hy
  generalize x1 * y1 = p11 at *
  generalize x1 * y0 = p10 at *
  generalize x0 * y1 = p01 at *
  generalize x0 * y0 = p00 at *
  simp only [wrap_u64]
  have g1 : p10 % 18446744073709551616 = p10 := by omega
  have g2 : p00 % 18446744073709551616 = p00 := by omega
  have g3 : p01 % 18446744073709551616 = p01 := by omega
  have g4 : p11 % 18446744073709551616 = p11 := by omega
  rw [g1, g2, g3, g4]
  have g5 : (p10 + p00 / 4294967296) % 18446744073709551616 = p10 + p00 / 4294967296 := by omega
  rw [g5, mask32 _ (by omega) (by omega)]
  omega

theorem two_ret {a b c d : Int} (h1 : a = c) (h2 : b = d) : Ending.returned (.tuple #[.int .u64 a, .int .u64 b]) = .returned (.tuple #[.int .u64 c, .int .u64 d]) := by rw [h1, h2]

set_option maxHeartbeats 400000 in
theorem addLimb_any (x y c : Int) (w : World) (hx : Lm x) (hy : Lm y) (hc : Cr c) :
    Calls Tryz.prog 172 #[.int .u64 x, .int .u64 y, .int .u64 c] w fun e w' => e = .returned (.tuple #[.int .u64 (addS x y c), .int .u64 (addC x y c)]) ∧ w = w' := by
  go_enter Tryz.func172, Tryz.ntmps172
  go_wp2
  go_ret2
  exact ⟨two_ret (addS_eq x y c) (by rw [addS_eq]; exact addC_eq x y c hx hy hc), rfl⟩
set_option maxHeartbeats 400000 in
theorem subLimb_any (x y c : Int) (w : World) (hx : Lm x) (hy : Lm y) (hc : Cr c) :
    Calls Tryz.prog 174 #[.int .u64 x, .int .u64 y, .int .u64 c] w fun e w' => e = .returned (.tuple #[.int .u64 (subS x y c), .int .u64 (subC x y c)]) ∧ w = w' := by
  go_enter Tryz.func174, Tryz.ntmps174
  go_wp2
  all_goals first | (exfalso; simp [IntKind.signed] at *; done) | skip
  go_ret2
  exact ⟨two_ret (subS_eq x y c) (by rw [subS_eq]; exact subC_eq x y c hx hy hc), rfl⟩
set_option maxHeartbeats 400000 in
theorem mulLimb_any (x y : Int) (w : World) (hx : Lm x) (hy : Lm y) :
    Calls Tryz.prog 175 #[.int .u64 x, .int .u64 y] w fun e w' => e = .returned (.tuple #[.int .u64 (mulH x y), .int .u64 (mulL x y)]) ∧ w = w' := by
  go_enter Tryz.func175, Tryz.ntmps175
  go_wp2
  go_ret2
  refine ⟨two_ret ?_ ?_, rfl⟩
  · exact mulH_eq x y hx hy
  · simp only [wrap_u64, mulL, Wd_eq]; rfl
end
end Go.Proofs.YtbpamkpclofnbaaGreat
namespace Go.Proofs.YtbpamkpclofnbaaGreat
section
set_option maxRecDepth 100000
open Go.RowKit
set_option linter.unusedVariables false

/-- The slice '.slice A n c' reads as the limbs l, and its cells lie below block B. -/
def Rd (w : World) (B : Nat) (A : Option Addr) (n c : Nat) (l : List Int) : Prop :=
  l.length = n ∧ n ≤ c ∧ n ≤ 17592186044416 ∧ Lim Wd l ∧
    (0 < n → ∃ b off, A = some ⟨b, off, none⟩ ∧ b < B ∧ ∀ k (hk : k < l.length), w.cell? ⟨b, off + k, none⟩ = some (.int .u64 l[k]))

section
variable {w w' : World} {B B' n c : Nat} {A : Option Addr} {l : List Int}
theorem Rd.len (h : Rd w B A n c l) : l.length = n := h.1
theorem Rd.cap (h : Rd w B A n c l) : n ≤ c := h.2.1
theorem Rd.big (h : Rd w B A n c l) : n ≤ 17592186044416 := h.2.2.1
theorem Rd.lim (h : Rd w B A n c l) : Lim Wd l := h.2.2.2.1
theorem Rd.nil : Rd w B none 0 0 [] := ⟨rfl, Nat.le_refl _, by omega, Lim_nil _, fun h => absurd h (by omega)⟩
theorem Rd.at_ (h : Rd w B A n c l) (hn : 0 < n) : ∃ b off, A = some ⟨b, off, none⟩ ∧ b < B ∧ ∀ k (hk : k < l.length), w.cell? ⟨b, off + k, none⟩ = some (.int .u64 l[k]) := h.2.2.2.2 hn
theorem Rd.keep (h : Rd w B A n c l) (hk : ∀ p : Addr, p.block < B → w'.cell? p = w.cell? p) : Rd w' B A n c l :=
  ⟨h.1, h.2.1, h.2.2.1, h.2.2.2.1, fun hn => by
    obtain ⟨b, off, e, hb, hc⟩ := h.at_ hn
    exact ⟨b, off, e, hb, fun k hk' => (hk _ hb).trans (hc k hk')⟩⟩
theorem Rd.more (h : Rd w B A n c l) (hB : B ≤ B') : Rd w B' A n c l :=
  ⟨h.1, h.2.1, h.2.2.1, h.2.2.2.1, fun hn => by
    obtain ⟨b, off, e, hb, hc⟩ := h.at_ hn
    exact ⟨b, off, e, by omega, hc⟩⟩
theorem Rd.below (h : Rd w B A n c l) (hb : Below B w w') : Rd w' B A n c l := h.keep fun _ hp => hb.cell hp
theorem Rd.alloc (h : Rd w B A n c l) (hB : B ≤ w.heap.size) (o : Obj) : Rd (w.alloc o) B A n c l := h.keep fun p hp => World.cell?_alloc_lt w o p (by omega)
theorem Rd.grown (h : Rd w B A n c l) {g : Nat} (hg : w.grownBy w' (some g)) (hB : B ≤ w.heap.size) (hr : B ≤ g) : Rd w' B A n c l :=
  h.keep fun p hp => World.cell?_of_block (hg.block p.block (by omega) (fun e => by injection e with e; omega))
theorem Rd.take (h : Rd w B A n c l) {m : Nat} (hm : m ≤ n) : Rd w B A m c (l.take m) := by
  have h1 := h.len
  refine ⟨by simp; omega, Nat.le_trans hm h.cap, Nat.le_trans hm h.big, h.lim.take m, fun hn => ?_⟩
  obtain ⟨b, off, e, hb, hc⟩ := h.at_ (by omega)
  refine ⟨b, off, e, hb, fun k hk => ?_⟩
  rw [List.length_take] at hk
  rw [hc k (by omega), List.getElem_take]
theorem Rd.drop (h : Rd w B A n c l) {m : Nat} (hm : m < n) : ∃ b off, A = some ⟨b, off, none⟩ ∧ Rd w B (some ⟨b, off + m, none⟩) (n - m) (c - m) (l.drop m) := by
  have h1 := h.len
  have h2 := h.cap
  have h3 := h.big
  obtain ⟨b, off, e, hb, hc⟩ := h.at_ (by omega)
  refine ⟨b, off, e, by simp; omega, by omega, by omega, h.lim.drop m, fun hn => ⟨b, off + m, rfl, hb, fun k hk => ?_⟩⟩
  rw [List.length_drop] at hk
  rw [Nat.add_assoc, hc (m + k) (by omega), List.getElem_drop]
end

/-- Block g holds just the limbs l. -/
def Bk (w : World) (g : Nat) (l : List Int) : Prop := w.heap[g]? = some (.cells (l.map (Value.int .u64)).toArray 69 (0, 0))

section
variable {w w' : World} {g : Nat} {l : List Int}
theorem Bk.lt (h : Bk w g l) : g < w.heap.size := by
  rcases Nat.lt_or_ge g w.heap.size with hlt | hge
  · exact hlt
  · unfold Bk at h; rw [Array.getElem?_eq_none hge] at h; cases h
theorem Bk.cell (h : Bk w g l) (i : Nat) (hi : i < l.length) : w.cell? ⟨g, i, none⟩ = some (.int .u64 l[i]) := by
  rw [cell_of_row w g i _ 69 (0, 0) h]; simp [hi]
theorem Bk.frozen (h : Bk w g l) (i : Nat) : w.frozen? ⟨g, i, none⟩ = false := by
  unfold Bk at h
  simp [World.frozen?, h]
theorem Bk.new (w : World) (l : List Int) : Bk (w.alloc (.cells (l.map (Value.int .u64)).toArray 69)) w.heap.size l := heap_alloc_new w _
theorem Bk.alloc (h : Bk w g l) (o : Obj) : Bk (w.alloc o) g l := (Below.heap_alloc w o g h.lt).trans h
theorem Bk.set (h : Bk w g l) (i : Nat) (x : Int) : Bk (w.setCell ⟨g, i, none⟩ (.int .u64 x)) g (l.set i x) := by
  unfold Bk at h ⊢
  simp [World.setCell, Array.getElem?_modify, h, List.map_set]
theorem Bk.far (h : Bk w g l) {p : Addr} (hp : g ≠ p.block) (u : Value) : Bk (w.setCell p u) g l := (Below.heap_setCell w p u g hp).trans h
theorem Bk.below {B : Nat} (h : Bk w g l) (hb : Below B w w') (hg : g < B) : Bk w' g l := (hb.block g hg).trans h
theorem Bk.grown {row : Option Nat} (h : Bk w g l) (hb : w.grownBy w' row) (hg : some g ≠ row) : Bk w' g l := (hb.block g h.lt hg).trans h
/-- A block that is known reads as a slice, from anywhere in it. -/
theorem Bk.rd (h : Bk w g l) {B off n c : Nat} (hB : g < B) (hn : off + n ≤ l.length) (hc : n ≤ c) (hb : c ≤ 17592186044416) (hl : Lim Wd l) : Rd w B (some ⟨g, off, none⟩) n c ((l.drop off).take n) := by
  refine ⟨by simp; omega, hc, Nat.le_trans hc hb, (hl.drop off).take n, fun _ => ⟨g, off, rfl, hB, fun k hk => ?_⟩⟩
  rw [List.length_take, List.length_drop] at hk
  rw [h.cell _ (by omega), List.getElem_take, List.getElem_drop]
end

theorem grownBy_set (w : World) (g i : Nat) (u : Value) : w.grownBy (w.setCell ⟨g, i, none⟩ u) (some g) :=
  ⟨rfl, rfl, rfl, by simp [World.setCell], fun k _ hne => Below.heap_setCell w _ u k (fun e => hne (by rw [e]))⟩
theorem grownBy_trans {a b c : World} {r : Option Nat} (h : a.grownBy b r) (k : b.grownBy c r) : a.grownBy c r :=
  ⟨k.os.trans h.os, k.tape.trans h.tape, k.output.trans h.output, Nat.le_trans h.size k.size, fun i hi hne => (k.block i (Nat.lt_of_lt_of_le hi h.size) hne).trans (h.block i hi hne)⟩
theorem grownBy_drew {a b : World} {r : Option Nat} (h : a.grownBy b r) : a.grownBy b.drew r := ⟨h.os, h.tape, h.output, h.size, h.block⟩
theorem below_drewN {B : Nat} {a b : World} (h : Below B a b) (n : Nat) : Below B a (b.drewN n) := ⟨h.os, h.tape, h.output, h.size, h.block⟩

theorem trim_zeros {l : List Int} {n : Nat} (hl : l.length = n) {k : Nat} (hz : ∀ j (hj : j < l.length), k + 1 ≤ j → l[j] = 0) (hk : k < l.length) (h0 : l[k] = 0) : ∀ j (hj : j < l.length), k ≤ j → l[j] = 0 := fun j hj hkj => by
  rcases Nat.eq_or_lt_of_le hkj with h | h
  · subst h; exact h0
  · exact hz j hj h
theorem Rd.trimmed {w : World} {B n c : Nat} {A : Option Addr} {l : List Int} (h : Rd w B A n c l) {k : Nat} (hk : k ≤ n) (hz : ∀ j (hj : j < l.length), k ≤ j → l[j] = 0)
    (ht : ∀ hh : 0 < k, ∃ hj : k - 1 < l.length, l[k - 1] ≠ 0) : Rd w B A k c (dg Wd (vl Wd l)) := by
  rw [dg_take Wd2 h.lim (by have := h.len; omega) hz (fun hh => (ht hh).2)]
  exact h.take hk
theorem Rd.trimmed0 {w : World} {B n c : Nat} {A : Option Addr} {l : List Int} (h : Rd w B A n c l) (hz : ∀ j (hj : j < l.length), 0 ≤ j → l[j] = 0) : Rd w B none 0 0 (dg Wd (vl Wd l)) := by
  rw [dg_take Wd2 h.lim (Nat.zero_le _) hz (fun hh => absurd hh (by omega))]
  exact Rd.nil

set_option maxHeartbeats 400000 in
theorem trim_any (A : Option Addr) (n c : Nat) (l : List Int) (w : World) (B : Nat) (h : Rd w B A n c l) :
    Calls Tryz.prog 153 #[.slice A n c] w fun e w' => ∃ A' n' c', e = .returned (.slice A' n' c') ∧ Rd w B A' n' c' (dg Wd (vl Wd l)) ∧ w = w' := by
  have hcap := h.cap
  have hbig := h.big
  have H := Lib.hid h.len
  go_enter Tryz.func153, Tryz.ntmps153
  go_wp2
  go_loop [3] (fun i => ∃ k : Nat, k ≤ n ∧ i = .int .i64 k ∧ Hid (∀ j (hj : j < l.length), k ≤ j → l[j] = 0)) (fun i => (intOf i).toNat)
  case atStart => exact ⟨n, Nat.le_refl _, rfl, fun j hj hk => by have := H.out; omega⟩
  case round =>
    obtain ⟨k, hk, rfl, hz⟩ := hrel
    rcases k with _ | k
    · go_wp2
      go_ret
      exact ⟨_, _, _, rfl, h.trimmed0 hz.out, rfl⟩
    · obtain ⟨b, off, rfl, hb, hc⟩ := h.at_ (by omega)
      have hkl : k < l.length := by have := H.out; omega
      have hck := hc k hkl
      clear hc
      generalize hx : l[k] = x at hck
      have Hx := Lib.hid hx; clear hx
      have b0 : ((↑(k + 1) : Int) == 0) = false := by simp; omega
      go_wp2
      · have h0 : (x == 0) = true := by assumption
        have h1 : l[k] = 0 := Hx.out.trans (by simpa using h0)
        go_round
        case rel => exact ⟨k, by omega, rfl, trim_zeros H.out hz.out hkl h1⟩
        case measure => simp [intOf]
      · have h0 : (x == 0) = false := by assumption
        have h1 : l[k] ≠ 0 := fun e => by rw [Hx.out] at e; simp [e] at h0
        go_ret
        exact ⟨_, _, _, rfl, h.trimmed (k := k + 1) (by omega) hz.out (fun _ => ⟨hkl, h1⟩), rfl⟩
end
end Go.Proofs.YtbpamkpclofnbaaGreat
namespace Go.Proofs.YtbpamkpclofnbaaGreat
section
set_option maxRecDepth 100000
open Go.RowKit
set_option linter.unusedVariables false

theorem Tryz.info64 : (Tryz.prog.info? 69).map (fun i => (i.zero, i.size, i.bytes)) = some (some (.int .u64 0), 1, 8) := by kernel_rfl

theorem madeCells64 (n : Nat) : madeCells (Value.int .u64 0).cells n = ((List.replicate n (0 : Int)).map (Value.int .u64)).toArray := by
  apply Array.toList_inj.1
  rw [show (Value.int .u64 0).cells = #[.int .u64 0] from rfl, toList_madeCells_one]
  simp

theorem wp_make64 {w : World} {ops : Array Oper} {rest : List Oper} {o : Oper} {a : Act} {Q : Exit → Act → World → Prop} (hg : o.guard = none) (l c : Operand) (hop : o.op = Op.makeSlice 28 l c)
    (n : Nat) (L C : Int) (hl : a.eval l = .int .i64 L) (hc : a.eval c = .int .i64 C) (hL : L = (n : Int)) (hC : C = (n : Int)) (hb : n ≤ 17592186044416)
    (hK : ∀ w', Bk w' w.heap.size (List.replicate n 0) → Below w.heap.size w w' → wpList Tryz.prog ops Q rest (a.put o.dst (.slice (some ⟨w.heap.size, 0, none⟩) n n)) w') :
    wpList Tryz.prog ops Q (o :: rest) a w := by
  obtain ⟨i0, hi, hz0, hz1, hz2⟩ := info_parts Tryz.info64
  refine wpList_make_full w hg l c 28 hop 0 69 i0 (.int .u64 0) 1 Tryz.underlying28 hi hz0 hz1 .i64 .i64 L C n hl hc hL hC (by rw [hz2]; omega) (by unfold maxLen; omega) (Nat.zero_le _) ?_
  intro w' hown hgrow
  refine hK w' ?_ ⟨hgrow.os, hgrow.tape, hgrow.output, hgrow.size, fun k hk => hgrow.block k hk (by simp)⟩
  obtain ⟨_, h2⟩ := hown
  rcases h2 with ⟨h, _⟩ | ⟨g, cap, cur, hv, _, hh, hnc, _, hcs, hxs⟩
  · cases h
  · injection hv with hv1 hv2 hv3
    injection hv1 with hv1
    injection hv1 with hv1
    subst hv1 hv3
    unfold Bk
    rw [hh]
    congr 2
    rw [Nat.mul_one, madeCells64, List.take_of_length_le (by simp; omega)] at hxs
    exact Array.toList_inj.1 hxs

theorem wp_copy64 {w : World} {ops : Array Oper} {rest : List Oper} {o : Oper} {a : Act} {Q : Exit → Act → World → Prop} (hg : o.guard = none) (d s : Operand)
    (hop : o.op = .call { callee := .builtin .copy, args := #[d, s], argTypes := #[28, 28] }) (g off dn dc : Nat) (A : Option Addr) (sn sc : Nat)
    (hd : a.eval d = .slice (some ⟨g, off, none⟩) dn dc) (hs : a.eval s = .slice A sn sc) (L l : List Int) (hbk : Bk w g L) (B : Nat) (hrd : Rd w B A sn sc l) (hn : sn ≤ dn) (hfit : off + dn ≤ L.length)
    (hK : ∀ w', Bk w' g (splice L off l) → w.grownBy w' (some g) → wpList Tryz.prog ops Q rest (a.put o.dst (.int .i64 sn)) w') :
    wpList Tryz.prog ops Q (o :: rest) a w := by
  have hl := hrd.len
  have hsz : (Tryz.prog.info? 69).map (·.size) = some 1 := by
    obtain ⟨i0, hi, hz0, hz1, hz2⟩ := info_parts Tryz.info64
    rw [hi]; simp [hz1]
  by_cases h0 : sn = 0
  · subst h0
    refine wpList_copy_nothing hg d s 28 28 hop 69 Tryz.underlying28 hsz _ _ _ _ _ _ hd hs (by simp) ?_
    have : l = [] := List.eq_nil_of_length_eq_zero hl
    subst this
    exact hK w (by simpa [splice] using hbk) ⟨rfl, rfl, rfl, Nat.le_refl _, fun _ _ _ => rfl⟩
  · obtain ⟨b, of, rfl, hb, hc⟩ := hrd.at_ (by omega)
    refine wpList_copy_own hg d s 28 28 hop 69 Tryz.underlying28 hsz g off dn dc _ sn sc hd hs _ _ hbk (l.map (Value.int .u64)) (by rw [List.length_map, hl]; exact (Nat.min_eq_left hn).symm) ?_ (by simp; omega) (ints_oneCell _ _) ?_
    · intro j v hj
      rw [List.getElem?_map] at hj
      by_cases hjl : j < l.length
      · rw [List.getElem?_eq_getElem hjl] at hj
        simp at hj
        subst hj
        rw [← hc j hjl]
        unfold Addr.add
        by_cases hj0 : j = 0
        · subst hj0; simp
        · rw [if_neg hj0]
      · rw [List.getElem?_eq_none (by omega)] at hj
        simp at hj
    · rw [List.length_map, hl]
      refine hK _ ?_ ⟨rfl, rfl, rfl, by simp [World.setRow], fun k _ hne => setRow_other w g k _ (fun e => hne (by rw [e]))⟩
      unfold Bk
      rw [setRow_heap w g _ _ _ _ hbk]
      simp [splice, List.map_take, List.map_drop, hl]

theorem grow_below {B g : Nat} {w0 w w' : World} (hb : Below B w0 w) (hBw : B ≤ w.heap.size) (hg : w.grownBy w' (some g)) (hB : B ≤ g) : Below B w0 w' :=
  hb.grown hg hBw (fun k hk => by injection hk with hk; omega)
theorem splice_all {L l : List Int} (h : l.length = L.length) : splice L 0 l = l := by simp [splice, h]

/-- What a function hands back: a slice that reads as the number N; of what was there nothing has turned. -/
def Out (w : World) (N : Nat) (e : Ending) (w' : World) : Prop := ∃ A n c, e = .returned (.slice A n c) ∧ Rd w' w'.heap.size A n c (dg Wd N) ∧ Below w.heap.size w w'

/-- What Norm hands back: nil, or a block of its own. -/
def NormPost (w : World) (L : List Int) (n : Nat) (e : Ending) (w' : World) : Prop :=
  Below w.heap.size w w' ∧ ((L = [] ∧ e = .returned (.slice none 0 0)) ∨
      (0 < L.length ∧ L.length ≤ n ∧ e = .returned (.slice (some ⟨w.heap.size, 0, none⟩) L.length L.length) ∧ Bk w' w.heap.size L))

set_option maxHeartbeats 400000 in
theorem Norm_own (A : Option Addr) (n c : Nat) (l : List Int) (w : World) (B : Nat) (h : Rd w B A n c l) (hBw : B ≤ w.heap.size) :
    Calls Tryz.prog 135 #[.slice A n c] w (NormPost w (dg Wd (vl Wd l)) n) := by
  have hln : (dg Wd (vl Wd l)).length ≤ n := by
    have := vl_lt h.lim
    rw [h.len] at this
    exact dg_len_le Wd2 this
  generalize hN : dg Wd (vl Wd l) = L at *
  have HN := Lib.hid hN; clear hN
  go_enter Tryz.func135, Tryz.ntmps135
  go_wp2_with fail
  refine (trim_any _ _ _ _ _ B h).mono ?_
  rintro e w' ⟨A', n', c', rfl, hrd, rfl⟩
  rw [HN.out] at hrd
  have hl := hrd.len
  have hbig := hrd.big
  have hcap := hrd.cap
  have HL := Lib.hid hl; clear hl
  rcases Nat.eq_zero_or_pos n' with h0 | h0
  · subst h0
    have hL : L = [] := List.eq_nil_of_length_eq_zero HL.out
    subst hL
    go_wp2
    go_ret
    exact ⟨Below.refl _ _, .inl ⟨rfl, rfl⟩⟩
  · have h0' : ((n' : Int) == 0) = false := by simp; omega
    go_wp2_with (first
      | (at_make; refine wp_make64 rfl _ _ rfl n' _ _ rfl rfl rfl rfl (by omega) ?_; intro w1 hbk1 hb1; have hrd1 := hrd.below (hb1.mono hBw))
      | ((with_reducible refine wp_copy64 rfl (.tmp 13) (.tmp 14) rfl w.heap.size 0 n' n' A' n' c' rfl rfl _ _ hbk1 B hrd1 (Nat.le_refl _) (by simp) ?_); intro w2 hbk2 hg2))
    have hb2 := grow_below hb1 hb1.size hg2 (Nat.le_refl _)
    rw [splice_all (by simpa using HL.out)] at hbk2
    go_ret
    refine ⟨hb2, .inr ⟨by rw [HL.out]; exact h0, hln, ?_, hbk2⟩⟩
    rw [HL.out]; rfl
theorem Norm_any (A : Option Addr) (n c : Nat) (l : List Int) (w : World) (B : Nat) (h : Rd w B A n c l) (hBw : B ≤ w.heap.size) :
    Calls Tryz.prog 135 #[.slice A n c] w (Out w (vl Wd l)) := by
  have hn : n ≤ 17592186044416 := h.big
  refine (Norm_own A n c l w B h hBw).mono ?_
  rintro e w' ⟨hb, ⟨h1, rfl⟩ | ⟨h1, h2, rfl, hbk⟩⟩
  · exact ⟨_, _, _, rfl, by rw [h1]; exact Rd.nil, hb⟩
  · refine ⟨_, _, _, rfl, ?_, hb⟩
    have := hbk.rd (B := w'.heap.size) (off := 0) (n := (dg Wd (vl Wd l)).length) (c := (dg Wd (vl Wd l)).length) hbk.lt (by simp) (Nat.le_refl _) (by omega) (Lim_dg Wd2 _)
    simpa using this
end
end Go.Proofs.YtbpamkpclofnbaaGreat
namespace Go.Proofs.YtbpamkpclofnbaaGreat
section
set_option maxRecDepth 100000
open Go.RowKit
set_option linter.unusedVariables false

/-- The world has only drawn. -/
def Quiet (w w' : World) : Prop := ∃ n, w' = w.drewN n
theorem Quiet.below {B : Nat} {w w' : World} (h : Quiet w w') : Below B w w' := by obtain ⟨n, rfl⟩ := h; exact below_drewN (Below.refl _ _) n
theorem Quiet.refl (w : World) : Quiet w w := ⟨0, rfl⟩
theorem Quiet.drewN {w w' : World} (h : Quiet w w') (n : Nat) : Quiet w (w'.drewN n) := by
  obtain ⟨m, rfl⟩ := h; exact ⟨m + n, by simp [World.drewN, Nat.add_assoc]⟩
theorem Quiet.cell {w w' : World} (h : Quiet w w') (a : Addr) : w'.cell? a = w.cell? a := by obtain ⟨n, rfl⟩ := h; rfl
theorem Quiet.size {w w' : World} (h : Quiet w w') : w'.heap.size = w.heap.size := by obtain ⟨n, rfl⟩ := h; rfl

/-- The order of two numbers. -/
def cmpI (a b : Nat) : Int := if a < b then -1 else if b < a then 1 else 0
def sideI (b : Bool) : Int := if b then -1 else 1

set_option maxHeartbeats 400000 in
theorem side_any (b : Bool) (w : World) : Calls Tryz.prog 173 #[.bool b] w fun e w' => e = .returned (.int .i64 (sideI b)) ∧ w = w' := by
  cases b
  all_goals
    go_enter Tryz.func173, Tryz.ntmps173
    go_wp2
    go_ret
    exact ⟨rfl, rfl⟩

theorem ret_i64 {a b : Int} (h : a = b) : Ending.returned (.int .i64 a) = .returned (.int .i64 b) := by rw [h]
theorem len_lt {b : Nat} (hb : 2 ≤ b) {N M : Nat} (h : (dg b N).length < (dg b M).length) : N < M := by
  rcases Nat.lt_or_ge N M with h1 | h1
  · exact h1
  · have := dg_len_mono hb h1; omega
theorem cmp_len {b : Nat} (hb : 2 ≤ b) {N M : Nat} (h : (dg b N).length ≠ (dg b M).length) : sideI (decide ((dg b N).length < (dg b M).length)) = cmpI N M := by
  rcases Nat.lt_or_gt_of_ne h with h1 | h1
  · have := len_lt hb h1
    simp [sideI, cmpI, h1, this]
  · have := len_lt hb h1
    have h2 : ¬ (dg b N).length < (dg b M).length := by omega
    have h3 : ¬ N < M := by omega
    simp [sideI, cmpI, h2, this, h3]
theorem top_lt {b : Nat} (hb : 2 ≤ b) {l m : List Int} (hl : Lim b l) (hm : Lim b m) (hlen : l.length = m.length) {k : Nat} (h1 : k < l.length) (h2 : k < m.length)
    (hz : ∀ j (h1 : j < l.length) (h2 : j < m.length), k < j → l[j] = m[j]) (h : l[k] < m[k]) : vl b l < vl b m := by
  have e1 := vl_split b l k (by omega)
  have e2 := vl_split b m k (by omega)
  rw [vl_drop_step b l k h1] at e1
  rw [vl_drop_step b m k h2] at e2
  have e3 : l.drop (k + 1) = m.drop (k + 1) := List.ext_getElem (by simp [hlen]) fun j ha hb => by
    rw [List.getElem_drop, List.getElem_drop]; exact hz _ _ _ (by omega)
  have b1 := vl_lt (hl.take k)
  rw [List.length_take, Nat.min_eq_left (by omega)] at b1
  have c1 := hl.get h1
  have c2 := hm.get h2
  rw [e3] at e1
  generalize vl b (m.drop (k + 1)) = r at *
  have h4 : b ^ k * (l[k].toNat + b * r + 1) ≤ b ^ k * (m[k].toNat + b * r) := Nat.mul_le_mul_left _ (by omega)
  rw [Nat.mul_add (b ^ k) _ 1, Nat.mul_one] at h4
  omega
theorem cmp_at {b : Nat} (hb : 2 ≤ b) {N M : Nat} (hlen : (dg b N).length = (dg b M).length) {k : Nat} (h1 : k < (dg b N).length) (h2 : k < (dg b M).length)
    (hz : ∀ j (h1 : j < (dg b N).length) (h2 : j < (dg b M).length), k < j → (dg b N)[j] = (dg b M)[j]) (h : (dg b N)[k] ≠ (dg b M)[k]) : sideI (decide ((dg b N)[k] < (dg b M)[k])) = cmpI N M := by
  rcases Int.lt_or_gt_of_ne h with h3 | h3
  · have := top_lt hb (Lim_dg hb N) (Lim_dg hb M) hlen h1 h2 hz h3
    rw [vl_dg hb, vl_dg hb] at this
    simp [sideI, cmpI, h3, this]
  · have := top_lt hb (Lim_dg hb M) (Lim_dg hb N) hlen.symm h2 h1 (fun j a b c => (hz j b a c).symm) h3
    rw [vl_dg hb, vl_dg hb] at this
    have h4 : ¬ (dg b N)[k] < (dg b M)[k] := by omega
    have h5 : ¬ N < M := by omega
    simp [sideI, cmpI, h4, this, h5]
theorem cmp_eq {b : Nat} (hb : 2 ≤ b) {N M : Nat} (hlen : (dg b N).length = (dg b M).length) (hz : ∀ j (h1 : j < (dg b N).length) (h2 : j < (dg b M).length), (dg b N)[j] = (dg b M)[j]) : 0 = cmpI N M := by
  have := dg_inj hb (List.ext_getElem hlen hz)
  simp [cmpI, this]

theorem cmp_step {l m : List Int} {n k i : Nat} (hz : ∀ j (h1 : j < l.length) (h2 : j < m.length), n ≤ j + k → l[j] = m[j]) (h1 : i < l.length) (h2 : i < m.length) (hi : n = i + 1 + k) (h : l[i] = m[i]) :
    ∀ j (h1 : j < l.length) (h2 : j < m.length), n ≤ j + (k + 1) → l[j] = m[j] := fun j h1 h2 hj => by
  rcases Nat.lt_or_ge (j + k) n with h3 | h3
  · obtain rfl : j = i := by omega
    exact h
  · exact hz j h1 h2 h3

set_option maxHeartbeats 1000000 in
theorem Cmp_any (A A2 : Option Addr) (n c n2 c2 : Nat) (l m : List Int) (w : World) (B : Nat) (h : Rd w B A n c l) (h2 : Rd w B A2 n2 c2 m) :
    Calls Tryz.prog 163 #[.slice A n c, .slice A2 n2 c2] w fun e w' => e = .returned (.int .i64 (cmpI (vl Wd l) (vl Wd m))) ∧ Quiet w w' := by
  generalize hN : vl Wd l = N
  generalize hM : vl Wd m = M
  have HN := Lib.hid hN; clear hN
  have HM := Lib.hid hM; clear hM
  go_enter Tryz.func163, Tryz.ntmps163
  go_wp2_with fail
  refine (trim_any _ _ _ _ _ B h).mono ?_
  rintro e w' ⟨A', n', c', rfl, hrd, rfl⟩
  go_wp2_with fail
  refine (trim_any _ _ _ _ _ B h2).mono ?_
  rintro e w' ⟨A2', n2', c2', rfl, hrd2, rfl⟩
  rw [HN.out] at hrd
  rw [HM.out] at hrd2
  have hcap := hrd.cap
  have hbig := hrd.big
  have hcap2 := hrd2.cap
  have hbig2 := hrd2.big
  have H := Lib.hid hrd.len
  have H2 := Lib.hid hrd2.len
  clear h h2
  by_cases hne : n' = n2'
  · subst hne
    have hb0 : ((n' : Int) != n') = false := by simp
    go_wp2_with fail
    go_loopw [24, 5, 6] (fun i _ _ wr => ∃ k : Nat, k ≤ n' ∧ i = .int .i64 k ∧ Hid (∀ j (h1 : j < (dg Wd N).length) (h2 : j < (dg Wd M).length), n' ≤ j + k → (dg Wd N)[j] = (dg Wd M)[j]) ∧ Quiet w wr) (fun i _ _ _ => n' - (intOf i).toNat)
    case atStart => exact ⟨0, Nat.zero_le _, rfl, fun j h1 _ h => absurd h (by have := H.out; omega), Quiet.refl w⟩
    case round =>
      obtain ⟨k, hk, rfl, hz, hq⟩ := hrel
      by_cases hkn : k < n'
      · obtain ⟨b, off, rfl, hb, hc⟩ := hrd.at_ (by omega)
        obtain ⟨b2, off2, rfl, hb2, hc2⟩ := hrd2.at_ (by omega)
        obtain ⟨i, hi⟩ : ∃ i, n' = i + 1 + k := ⟨n' - 1 - k, by omega⟩
        have hkl : i < (dg Wd N).length := by have := H.out; omega
        have hkm : i < (dg Wd M).length := by have := H2.out; omega
        have hck := (hq.cell _).trans (hc i hkl)
        have hck2 := (hq.cell _).trans (hc2 i hkm)
        clear hc hc2
        generalize hx : (dg Wd N)[i] = x at hck
        have Hx := Lib.hid hx; clear hx
        generalize hy : (dg Wd M)[i] = y at hck2
        have Hy := Lib.hid hy; clear hy
        have e1 : (n' : Int) - 1 - k = i := by omega
        have HI := Lib.hid hi; clear hi
        go_wp2
        go_quiet (fail)
        have hq2 := hq.drewN nq
        have hcn : (wr.drewN nq).cell? ⟨b, off + i, none⟩ = _ := hck
        have hcn2 : (wr.drewN nq).cell? ⟨b2, off2 + i, none⟩ = _ := hck2
        generalize wr.drewN nq = wq at *
        clear hck hck2 hq
        have hin : (i : Int) < n' := by omega
        go_wp2
        · have h0 : (x != y) = true := by assumption
          go_quiet ((go_at_call 173; exact Calls.quiet_of_same ((side_any _ _).mono fun _ _ hh => ⟨hh.1, hh.2.symm⟩)))
          go_wp2
          go_ret
          refine ⟨ret_i64 ?_, hq2.drewN _⟩
          have := cmp_at Wd2 (H.out.trans H2.out.symm) hkl hkm (fun j h1 h2 hj => hz.out j h1 h2 (by have := HI.out; omega)) (by rw [Hx.out, Hy.out]; simpa using h0)
          rw [Hx.out, Hy.out] at this
          exact this
        · have h0 : (x != y) = false := by assumption
          have h1 : (dg Wd N)[i] = (dg Wd M)[i] := by rw [Hx.out, Hy.out]; simpa using h0
          go_roundw
          case rel => exact ⟨k + 1, by omega, by go_num, cmp_step hz.out hkl hkm (by have := HI.out; omega) h1, hq2⟩
          case measure => simp [intOf]; omega
      · go_wp2
        go_ret
        exact ⟨ret_i64 (cmp_eq Wd2 (H.out.trans H2.out.symm) fun j h1 h2 => hz.out j h1 h2 (by have := H.out; omega)), hq⟩
  · have hb0 : ((n' : Int) != n2') = true := by simp; omega
    go_wp2_with fail
    refine (side_any _ _).mono ?_
    rintro e w' ⟨rfl, rfl⟩
    go_wp2
    go_ret
    refine ⟨ret_i64 ?_, Quiet.refl _⟩
    have := cmp_len Wd2 (N := N) (M := M) (by rw [H.out, H2.out]; exact hne)
    rw [H.out, H2.out] at this
    simpa using this
end
end Go.Proofs.YtbpamkpclofnbaaGreat
namespace Go.Proofs.YtbpamkpclofnbaaGreat
section
set_option maxRecDepth 100000
open Go.RowKit
set_option linter.unusedVariables false

theorem win_get {P W S : List Int} {k : Nat} (hk : k < W.length) : (P ++ (W ++ S))[P.length + k]'(by simp; omega) = W[k] := by
  rw [List.getElem_append_right (by omega), List.getElem_append_left (by omega)]
  congr 1
  omega
theorem win_set {P W S : List Int} {k : Nat} (hk : k < W.length) (x : Int) : (P ++ (W ++ S)).set (P.length + k) x = P ++ (W.set k x ++ S) := by
  rw [List.set_append_right _ _ (by omega), List.set_append_left _ _ (by omega)]
  congr 3
  omega
theorem Bk.wcell {w : World} {g off : Nat} {P W S : List Int} (h : Bk w g (P ++ (W ++ S))) (hP : P.length = off) {k : Nat} (hk : k < W.length) : w.cell? ⟨g, off + k, none⟩ = some (.int .u64 W[k]) := by
  subst hP
  rw [h.cell (P.length + k) (by simp; omega), win_get hk]
theorem Bk.wset {w : World} {g off : Nat} {P W S : List Int} (h : Bk w g (P ++ (W ++ S))) (hP : P.length = off) {k : Nat} (hk : k < W.length) (x : Int) : Bk (w.setCell ⟨g, off + k, none⟩ (.int .u64 x)) g (P ++ (W.set k x ++ S)) := by
  subst hP
  have := h.set (P.length + k) x
  rwa [win_set hk] at this
theorem Bk.drew {w : World} {g : Nat} {l : List Int} (h : Bk w g l) : Bk w.drew g l := h
theorem Bk.drewN {w : World} {g : Nat} {l : List Int} (h : Bk w g l) (n : Nat) : Bk (w.drewN n) g l := h

/-- A sum under way: the first k limbs of lb have been added; c is carried. -/
def AddInv (W lb : List Int) (k : Nat) (Wk : List Int) (c : Int) : Prop :=
  Wk.length = W.length ∧ Lim Wd Wk ∧ Cr c ∧ vl Wd Wk + Wd ^ k * c.toNat = vl Wd W + vl Wd (lb.take k)

theorem AddInv.zero {W lb : List Int} (hW : Lim Wd W) : AddInv W lb 0 W 0 := ⟨rfl, hW, Cr_zero, by simp [vl]⟩

theorem addS_lm (x y c : Int) : Lm (addS x y c) := by unfold Lm addS; rw [Wd_eq]; omega
theorem subS_lm (x y c : Int) : Lm (subS x y c) := by unfold Lm subS; rw [Wd_eq]; omega
theorem addC_cr {x y c : Int} (hx : Lm x) (hy : Lm y) (hc : Cr c) : Cr (addC x y c) := by unfold Lm Cr addC at *; rw [Wd_eq] at *; omega
theorem subC_cr {x y c : Int} (hx : Lm x) (hy : Lm y) (hc : Cr c) : Cr (subC x y c) := by unfold Lm Cr subC at *; rw [Wd_eq] at *; omega
theorem add_id {x y c : Int} (hx : Lm x) (hy : Lm y) (hc : Cr c) : (addS x y c).toNat + Wd * (addC x y c).toNat = x.toNat + y.toNat + c.toNat := by
  unfold Lm Cr addC addS at *; rw [Wd_eq] at *; omega
theorem sub_id {x y c : Int} (hx : Lm x) (hy : Lm y) (hc : Cr c) : (subS x y c).toNat + y.toNat + c.toNat = x.toNat + Wd * (subC x y c).toNat := by
  unfold Lm Cr subC subS at *; rw [Wd_eq] at *; omega

theorem AddInv.step {W lb Wk : List Int} {k : Nat} {c y : Int} (h : AddInv W lb k Wk c) (hk : k < Wk.length) (hy : Lm y) (hly : vl Wd (lb.take (k + 1)) = vl Wd (lb.take k) + Wd ^ k * y.toNat) :
    AddInv W lb (k + 1) (Wk.set k (addS Wk[k] y c)) (addC Wk[k] y c) := by
  obtain ⟨h1, h2, h3, h4⟩ := h
  have hx : Lm Wk[k] := h2.get hk
  refine ⟨by simpa using h1, h2.set k (addS_lm _ _ _), addC_cr hx hy h3, ?_⟩
  have e1 := vl_set Wd Wk k hk (addS Wk[k] y c)
  have e2 := add_id hx hy h3
  generalize addS Wk[k] y c = s at *
  generalize addC Wk[k] y c = d at *
  rw [hly, Nat.pow_succ, Nat.mul_assoc]
  have e3 : Wd ^ k * (s.toNat + Wd * d.toNat) = Wd ^ k * (Wk[k].toNat + y.toNat + c.toNat) := by rw [e2]
  rw [Nat.mul_add, Nat.mul_add, Nat.mul_add] at e3
  omega
theorem take_end {lb : List Int} {m k : Nat} (hm : lb.length = m) (hk : m ≤ k) : lb.take k = lb := List.take_of_length_le (by omega)

/-- The first loop's relation, and the second's. -/
def AddRel (w : World) (g : Nat) (P W S lb : List Int) (cy : Value) (k : Nat) (wr : World) : Prop :=
  ∃ Wk c, cy = .int .u64 c ∧ AddInv W lb k Wk c ∧ Bk wr g (P ++ (Wk ++ S)) ∧ w.grownBy wr (some g)

def AddPost (w : World) (g : Nat) (P W S lb : List Int) (e : Ending) (w' : World) : Prop :=
  ∃ W' c, e = .returned (.int .u64 c) ∧ W'.length = W.length ∧ Lim Wd W' ∧ Cr c ∧ vl Wd W' + Wd ^ W.length * c.toNat = vl Wd W + vl Wd lb ∧ Bk w' g (P ++ (W' ++ S)) ∧ w.grownBy w' (some g)

set_option maxHeartbeats 1000000 in
theorem addTo_any (g off n c : Nat) (A : Option Addr) (m cb : Nat) (P W S lb : List Int) (w : World) (B : Nat) (hP : P.length = off) (hWn : W.length = n) (hW : Lim Wd W) (hbig : n ≤ 17592186044416)
    (hbk : Bk w g (P ++ (W ++ S))) (h : Rd w B A m cb lb) (hB : B ≤ g) (hmn : m ≤ n) :
    Calls Tryz.prog 162 #[.slice (some ⟨g, off, none⟩) n c, .slice A m cb] w (AddPost w g P W S lb) := by
  have HP := Lib.hid hP; clear hP
  have HW := Lib.hid hWn; clear hWn
  have H := Lib.hid h.len
  have hcap := h.cap
  have hbig2 := h.big
  go_enter Tryz.func162, Tryz.ntmps162
  go_wp2
  go_loopw [5, 6, 10] (fun cy _ i wr => ∃ k : Nat, k ≤ m ∧ i = .int .i64 k ∧ AddRel w g P W S lb cy k wr) (fun _ _ i _ => m - (intOf i).toNat)
  case atStart => exact ⟨0, Nat.zero_le _, rfl, W, 0, rfl, AddInv.zero hW, hbk, ⟨rfl, rfl, rfl, Nat.le_refl _, fun _ _ _ => rfl⟩⟩
  case round =>
    obtain ⟨k, hk, rfl, Wk, cy, rfl, hinv, hbkr, hgr⟩ := hrel
    by_cases hkm : k < m
    · obtain ⟨b, of, rfl, hb, hc⟩ := h.at_ (by omega)
      have hkl : k < lb.length := by have := H.out; omega
      have hkW : k < Wk.length := by have := HW.out; have := hinv.1; omega
      have hc1 := hbkr.wcell HP.out hkW
      have hf1 := hbkr.frozen (off + k)
      have hc2 : wr.cell? ⟨b, of + k, none⟩ = _ := (World.cell?_of_block (hgr.block b (by have := hbk.lt; omega) (fun e => by injection e with e; omega))).trans (hc k hkl)
      have hx : Lm Wk[k] := hinv.2.1.get hkW
      have hy : Lm lb[k] := h.lim.get hkl
      have hst := hinv.step hkW hy (vl_take_succ Wd lb k hkl)
      have hcr := hinv.2.2.1
      have hcr' := hst.2.2.1
      have hbk' := (hbkr.wset HP.out hkW (addS Wk[k] lb[k] cy))
      clear hc
      generalize hxe : Wk[k] = x at hc1 hx hst hcr' hbk'
      have Hx := Lib.hid hxe; clear hxe
      generalize hye : lb[k] = y at hc2 hy hst hcr' hbk'
      have Hy := Lib.hid hye; clear hye
      have hkn : (k : Int) < n := by omega
      have R : AddRel w g P W S lb (.int .u64 (addC x y cy)) (k + 1) (wr.setCell ⟨g, off + k, none⟩ (.int .u64 (addS x y cy))).drew := ⟨_, _, rfl, hst, hbk', grownBy_drew (grownBy_trans hgr (grownBy_set _ _ _ _))⟩
      clear hst hbk' hinv hbkr
      go_wp2
      go_region_with ((go_at_call 172; refine (addLimb_any x y cy _ hx hy hcr).mono ?_; rintro e w' ⟨rfl, rfl⟩))
      all_goals go_wp2
      all_goals go_roundw
      all_goals first | exact ⟨k + 1, by omega, by go_num, R⟩ | (simp [intOf]; omega)
    · obtain rfl : m = k := by omega
      clear hk hkm
      go_wp2
      go_loopw [5, 7] (fun cy i wr => ∃ k : Nat, m ≤ k ∧ k ≤ n ∧ i = .int .i64 k ∧ AddRel w g P W S lb cy k wr) (fun _ i _ => n - (intOf i).toNat)
      case atStart => exact ⟨m, Nat.le_refl _, hmn, rfl, Wk, cy, rfl, hinv, hbkr, hgr⟩
      case round =>
        clear hinv hbkr hgr
        obtain ⟨j, hj, hjn, rfl, Wj, cj, rfl, hinv, hbkr, hgr⟩ := hrel
        have hfin : vl Wd Wj + Wd ^ j * cj.toNat = vl Wd W + vl Wd lb := by have := hinv.2.2.2; rwa [take_end H.out hj] at this
        have Hfin := Lib.hid hfin; clear hfin
        rcases hinv.2.2.1 with h0 | h0
        · subst h0
          have hb0 : ((0 : Int) != 0) = false := by simp
          go_wp2
          go_ret
          exact ⟨Wj, 0, rfl, hinv.1, hinv.2.1, Cr_zero, by have := Hfin.out; simpa using this, hbkr, hgr⟩
        · subst h0
          have hb0 : ((1 : Int) != 0) = true := by simp
          by_cases hjn2 : j < n
          · have hjW : j < Wj.length := by have := HW.out; have := hinv.1; omega
            have hc1 := hbkr.wcell HP.out hjW
            have hf1 := hbkr.frozen (off + j)
            have hx : Lm Wj[j] := hinv.2.1.get hjW
            have hst := hinv.step hjW Lm_zero (by rw [take_end H.out hj, take_end H.out (by omega)]; simp)
            have hbk' := (hbkr.wset HP.out hjW (addS Wj[j] 0 1))
            generalize hxe : Wj[j] = x at hc1 hx hst hbk'
            have Hx := Lib.hid hxe; clear hxe
            have R : AddRel w g P W S lb (.int .u64 (addC x 0 1)) (j + 1) (wr.setCell ⟨g, off + j, none⟩ (.int .u64 (addS x 0 1))) := ⟨_, _, rfl, hst, hbk', grownBy_trans hgr (grownBy_set _ _ _ _)⟩
            clear hst hbk' hinv hbkr
            go_wp2_with (go_at_call 172; refine (addLimb_any x 0 1 _ hx Lm_zero (.inr rfl)).mono ?_; rintro e w' ⟨rfl, rfl⟩)
            go_roundw
            case rel => exact ⟨j + 1, by omega, by omega, by go_num, R⟩
            case measure => simp [intOf]; omega
          · obtain rfl : n = j := by omega
            go_wp2
            go_ret
            exact ⟨Wj, 1, rfl, hinv.1, hinv.2.1, .inr rfl, by have := Hfin.out; rwa [HW.out], hbkr, hgr⟩
end
end Go.Proofs.YtbpamkpclofnbaaGreat
namespace Go.Proofs.YtbpamkpclofnbaaGreat
section
set_option maxRecDepth 100000
open Go.RowKit
set_option linter.unusedVariables false

/-- A difference under way: the first k limbs of lb have been taken away; c is borrowed. -/
def SubInv (W lb : List Int) (k : Nat) (Wk : List Int) (c : Int) : Prop :=
  Wk.length = W.length ∧ Lim Wd Wk ∧ Cr c ∧ vl Wd Wk + vl Wd (lb.take k) = vl Wd W + Wd ^ k * c.toNat
theorem SubInv.zero {W lb : List Int} (hW : Lim Wd W) : SubInv W lb 0 W 0 := ⟨rfl, hW, Cr_zero, by simp [vl]⟩
theorem SubInv.step {W lb Wk : List Int} {k : Nat} {c y : Int} (h : SubInv W lb k Wk c) (hk : k < Wk.length) (hy : Lm y) (hly : vl Wd (lb.take (k + 1)) = vl Wd (lb.take k) + Wd ^ k * y.toNat) :
    SubInv W lb (k + 1) (Wk.set k (subS Wk[k] y c)) (subC Wk[k] y c) := by
  obtain ⟨h1, h2, h3, h4⟩ := h
  have hx : Lm Wk[k] := h2.get hk
  refine ⟨by simpa using h1, h2.set k (subS_lm _ _ _), subC_cr hx hy h3, ?_⟩
  have e1 := vl_set Wd Wk k hk (subS Wk[k] y c)
  have e2 := sub_id hx hy h3
  generalize subS Wk[k] y c = s at *
  generalize subC Wk[k] y c = d at *
  rw [hly, Nat.pow_succ, Nat.mul_assoc]
  have e3 : Wd ^ k * (s.toNat + y.toNat + c.toNat) = Wd ^ k * (Wk[k].toNat + Wd * d.toNat) := by rw [e2]
  rw [Nat.mul_add, Nat.mul_add, Nat.mul_add] at e3
  omega
def SubRel (w : World) (g : Nat) (P W S lb : List Int) (cy : Value) (k : Nat) (wr : World) : Prop :=
  ∃ Wk c, cy = .int .u64 c ∧ SubInv W lb k Wk c ∧ Bk wr g (P ++ (Wk ++ S)) ∧ w.grownBy wr (some g)
def SubPost (w : World) (g : Nat) (P W S lb : List Int) (e : Ending) (w' : World) : Prop :=
  ∃ W', e = .returned (.tuple #[]) ∧ W'.length = W.length ∧ Lim Wd W' ∧ vl Wd W' + vl Wd lb = vl Wd W ∧ Bk w' g (P ++ (W' ++ S)) ∧ w.grownBy w' (some g)

set_option maxHeartbeats 1000000 in
theorem subFrom_any (g off n c : Nat) (A : Option Addr) (m cb : Nat) (P W S lb : List Int) (w : World) (B : Nat) (hP : P.length = off) (hWn : W.length = n) (hW : Lim Wd W) (hbig : n ≤ 17592186044416)
    (hbk : Bk w g (P ++ (W ++ S))) (h : Rd w B A m cb lb) (hB : B ≤ g) (hmn : m ≤ n) (hge : vl Wd lb ≤ vl Wd W) :
    Calls Tryz.prog 164 #[.slice (some ⟨g, off, none⟩) n c, .slice A m cb] w (SubPost w g P W S lb) := by
  have HP := Lib.hid hP; clear hP
  have HW := Lib.hid hWn; clear hWn
  have H := Lib.hid h.len
  have hcap := h.cap
  have hbig2 := h.big
  go_enter Tryz.func164, Tryz.ntmps164
  go_wp2
  go_loopw [4, 5, 9] (fun cy _ i wr => ∃ k : Nat, k ≤ m ∧ i = .int .i64 k ∧ SubRel w g P W S lb cy k wr) (fun _ _ i _ => m - (intOf i).toNat)
  case atStart => exact ⟨0, Nat.zero_le _, rfl, W, 0, rfl, SubInv.zero hW, hbk, ⟨rfl, rfl, rfl, Nat.le_refl _, fun _ _ _ => rfl⟩⟩
  case round =>
    obtain ⟨k, hk, rfl, Wk, cy, rfl, hinv, hbkr, hgr⟩ := hrel
    by_cases hkm : k < m
    · obtain ⟨b, of, rfl, hb, hc⟩ := h.at_ (by omega)
      have hkl : k < lb.length := by have := H.out; omega
      have hkW : k < Wk.length := by have := HW.out; have := hinv.1; omega
      have hc1 := hbkr.wcell HP.out hkW
      have hf1 := hbkr.frozen (off + k)
      have hc2 : wr.cell? ⟨b, of + k, none⟩ = _ := (World.cell?_of_block (hgr.block b (by have := hbk.lt; omega) (fun e => by injection e with e; omega))).trans (hc k hkl)
      have hx : Lm Wk[k] := hinv.2.1.get hkW
      have hy : Lm lb[k] := h.lim.get hkl
      have hst := hinv.step hkW hy (vl_take_succ Wd lb k hkl)
      have hcr := hinv.2.2.1
      have hcr' := hst.2.2.1
      have hbk' := (hbkr.wset HP.out hkW (subS Wk[k] lb[k] cy))
      clear hc
      generalize hxe : Wk[k] = x at hc1 hx hst hcr' hbk'
      have Hx := Lib.hid hxe; clear hxe
      generalize hye : lb[k] = y at hc2 hy hst hcr' hbk'
      have Hy := Lib.hid hye; clear hye
      have hkn : (k : Int) < n := by omega
      have R : SubRel w g P W S lb (.int .u64 (subC x y cy)) (k + 1) (wr.setCell ⟨g, off + k, none⟩ (.int .u64 (subS x y cy))).drew := ⟨_, _, rfl, hst, hbk', grownBy_drew (grownBy_trans hgr (grownBy_set _ _ _ _))⟩
      clear hst hbk' hinv hbkr
      go_wp2
      go_region_with ((go_at_call 174; refine (subLimb_any x y cy _ hx hy hcr).mono ?_; rintro e w' ⟨rfl, rfl⟩))
      all_goals go_wp2
      all_goals go_roundw
      all_goals first | exact ⟨k + 1, by omega, by go_num, R⟩ | (simp [intOf]; omega)
    · obtain rfl : m = k := by omega
      clear hk hkm
      go_wp2
      go_loopw [4, 6] (fun cy i wr => ∃ k : Nat, m ≤ k ∧ k ≤ n ∧ i = .int .i64 k ∧ SubRel w g P W S lb cy k wr) (fun _ i _ => n - (intOf i).toNat)
      case atStart => exact ⟨m, Nat.le_refl _, hmn, rfl, Wk, cy, rfl, hinv, hbkr, hgr⟩
      case round =>
        clear hinv hbkr hgr
        obtain ⟨j, hj, hjn, rfl, Wj, cj, rfl, hinv, hbkr, hgr⟩ := hrel
        have hfin : vl Wd Wj + vl Wd lb = vl Wd W + Wd ^ j * cj.toNat := by have := hinv.2.2.2; rwa [take_end H.out hj] at this
        have Hfin := Lib.hid hfin; clear hfin
        rcases hinv.2.2.1 with h0 | h0
        · subst h0
          have hb0 : ((0 : Int) != 0) = false := by simp
          go_wp2
          go_end0
          exact ⟨Wj, rfl, hinv.1, hinv.2.1, by have := Hfin.out; simpa using this, hbkr, hgr⟩
        · subst h0
          have hb0 : ((1 : Int) != 0) = true := by simp
          by_cases hjn2 : j < n
          · have hjW : j < Wj.length := by have := HW.out; have := hinv.1; omega
            have hc1 := hbkr.wcell HP.out hjW
            have hf1 := hbkr.frozen (off + j)
            have hx : Lm Wj[j] := hinv.2.1.get hjW
            have hst := hinv.step hjW Lm_zero (by rw [take_end H.out hj, take_end H.out (by omega)]; simp)
            have hbk' := (hbkr.wset HP.out hjW (subS Wj[j] 0 1))
            generalize hxe : Wj[j] = x at hc1 hx hst hbk'
            have Hx := Lib.hid hxe; clear hxe
            have R : SubRel w g P W S lb (.int .u64 (subC x 0 1)) (j + 1) (wr.setCell ⟨g, off + j, none⟩ (.int .u64 (subS x 0 1))) := ⟨_, _, rfl, hst, hbk', grownBy_trans hgr (grownBy_set _ _ _ _)⟩
            clear hst hbk' hinv hbkr
            go_wp2_with (go_at_call 174; refine (subLimb_any x 0 1 _ hx Lm_zero (.inr rfl)).mono ?_; rintro e w' ⟨rfl, rfl⟩)
            go_roundw
            case rel => exact ⟨j + 1, by omega, by omega, by go_num, R⟩
            case measure => simp [intOf]; omega
          · obtain rfl : n = j := by omega
            exfalso
            have h1 := Hfin.out
            have h2 := vl_lt hinv.2.1
            rw [hinv.1, HW.out] at h2
            have h3 : Wd ^ n * (1 : Int).toNat = Wd ^ n := by simp
            omega
end
end Go.Proofs.YtbpamkpclofnbaaGreat
namespace Go.Proofs.YtbpamkpclofnbaaGreat
section
set_option maxRecDepth 100000
open Go.RowKit
set_option linter.unusedVariables false

def mpL (x d c : Int) : Int := addS (mulL x d) c 0
def mpS (x d c z : Int) : Int := addS z (mpL x d c) 0
def mpC (x d c z : Int) : Int := mulH x d + addC (mulL x d) c 0 + addC z (mpL x d c) 0
def msS (x d c z : Int) : Int := subS z (mpL x d c) 0
def msC (x d c z : Int) : Int := mulH x d + addC (mulL x d) c 0 + subC z (mpL x d c) 0

theorem prod_le {x d : Int} (hx : Lm x) (hd : Lm d) : 0 ≤ x * d ∧ x * d ≤ 340282366920938463426481119284349108225 := by
  unfold Lm at *; rw [Wd_eq] at *
  refine ⟨Int.mul_nonneg hx.1 hd.1, ?_⟩
  have := Int.mul_le_mul (show x ≤ 18446744073709551615 by omega) (show d ≤ 18446744073709551615 by omega) hd.1 (by omega)
  omega
theorem mulL_lm {x d : Int} : Lm (mulL x d) := by unfold Lm mulL; rw [Wd_eq]; omega
theorem mulH_lm {x d : Int} (hx : Lm x) (hd : Lm d) : Lm (mulH x d) := by
  have := prod_le hx hd
  unfold Lm mulH; rw [Wd_eq]; omega
theorem mpS_lm {x d c z : Int} : Lm (mpS x d c z) := addS_lm _ _ _
theorem msS_lm {x d c z : Int} : Lm (msS x d c z) := subS_lm _ _ _
theorem mpC_all {x d c z : Int} (hx : Lm x) (hd : Lm d) (hc : Lm c) (hz : Lm z) : Lm (mpC x d c z) ∧ mpS x d c z + Wd * mpC x d c z = z + x * d + c := by
  have := prod_le hx hd
  unfold Lm mpC mpS mpL addS addC mulH mulL at *
  rw [Wd_eq] at *
  generalize x * d = p at *
  omega
theorem msC_all {x d c z : Int} (hx : Lm x) (hd : Lm d) (hc : Lm c) (hz : Lm z) : Lm (msC x d c z) ∧ msS x d c z + x * d + c = z + Wd * msC x d c z := by
  have := prod_le hx hd
  unfold Lm msC msS mpL subS subC addS addC mulH mulL at *
  rw [Wd_eq] at *
  generalize x * d = p at *
  omega
theorem carry_wrap {a b c : Int} (ha : Lm a) (hb : Cr b) (hc : Cr c) (h : Lm (a + b + c)) : IntKind.u64.wrap (IntKind.u64.wrap (a + b) + c) = a + b + c := by
  simp only [wrap_u64]; unfold Lm Cr at *; rw [Wd_eq] at *; omega
theorem int_nat {a b c d : Int} (ha : 0 ≤ a) (hb : 0 ≤ b) (hc : 0 ≤ c) (hd : 0 ≤ d) {x y : Int} (hx : 0 ≤ x) (hy : 0 ≤ y) (h : a + (Wd : Int) * b = c + x * y + d) : a.toNat + Wd * b.toNat = c.toNat + x.toNat * y.toNat + d.toNat := by
  obtain ⟨a, rfl⟩ := Int.eq_ofNat_of_zero_le ha
  obtain ⟨b, rfl⟩ := Int.eq_ofNat_of_zero_le hb
  obtain ⟨c, rfl⟩ := Int.eq_ofNat_of_zero_le hc
  obtain ⟨d, rfl⟩ := Int.eq_ofNat_of_zero_le hd
  obtain ⟨x, rfl⟩ := Int.eq_ofNat_of_zero_le hx
  obtain ⟨y, rfl⟩ := Int.eq_ofNat_of_zero_le hy
  simp only [Int.toNat_natCast]
  exact_mod_cast h

/-- A product under way. -/
def MulInv (W la : List Int) (d : Int) (k : Nat) (Wk : List Int) (c : Int) : Prop :=
  Wk.length = W.length ∧ Lim Wd Wk ∧ Lm c ∧ Wk[la.length]? = W[la.length]? ∧ vl Wd Wk + Wd ^ k * c.toNat = vl Wd W + d.toNat * vl Wd (la.take k)
theorem MulInv.zero {W la : List Int} {d : Int} (hW : Lim Wd W) : MulInv W la d 0 W 0 := ⟨rfl, hW, Lm_zero, rfl, by simp [vl]⟩
theorem MulInv.step {W la Wk : List Int} {d : Int} (hd : Lm d) (hla : Lim Wd la) {k : Nat} {c : Int} (h : MulInv W la d k Wk c) (hk : k < Wk.length) (hka : k < la.length) :
    MulInv W la d (k + 1) (Wk.set k (mpS la[k] d c Wk[k])) (mpC la[k] d c Wk[k]) := by
  obtain ⟨h1, h2, h3, h4, h5⟩ := h
  have hz : Lm Wk[k] := h2.get hk
  have hx : Lm la[k] := hla.get hka
  have hm := mpC_all hx hd h3 hz
  refine ⟨by simpa using h1, h2.set k mpS_lm, hm.1, by rw [List.getElem?_set_ne (by omega)]; exact h4, ?_⟩
  have e1 := vl_set Wd Wk k hk (mpS la[k] d c Wk[k])
  have hs : Lm (mpS la[k] d c Wk[k]) := mpS_lm
  generalize mpS la[k] d c Wk[k] = s at *
  generalize mpC la[k] d c Wk[k] = cc at *
  have e2 := int_nat hs.1 hm.1.1 hz.1 h3.1 hx.1 hd.1 hm.2
  rw [vl_take_succ Wd la k hka, Nat.pow_succ, Nat.mul_assoc]
  have e3 : Wd ^ k * (s.toNat + Wd * cc.toNat) = Wd ^ k * (Wk[k].toNat + la[k].toNat * d.toNat + c.toNat) := by rw [e2]
  have e4 : Wd ^ k * (la[k].toNat * d.toNat) = d.toNat * (Wd ^ k * la[k].toNat) := by rw [← Nat.mul_assoc, Nat.mul_comm]
  rw [Nat.mul_add, Nat.mul_add, Nat.mul_add, e4] at e3
  rw [Nat.mul_add d.toNat]
  omega
def SpdInv (W la : List Int) (d : Int) (k : Nat) (Wk : List Int) (c : Int) : Prop :=
  Wk.length = W.length ∧ Lim Wd Wk ∧ Lm c ∧ vl Wd Wk + d.toNat * vl Wd (la.take k) = vl Wd W + Wd ^ k * c.toNat
theorem SpdInv.zero {W la : List Int} {d : Int} (hW : Lim Wd W) : SpdInv W la d 0 W 0 := ⟨rfl, hW, Lm_zero, by simp [vl]⟩
theorem SpdInv.step {W la Wk : List Int} {d : Int} (hd : Lm d) (hla : Lim Wd la) {k : Nat} {c : Int} (h : SpdInv W la d k Wk c) (hk : k < Wk.length) (hka : k < la.length) :
    SpdInv W la d (k + 1) (Wk.set k (msS la[k] d c Wk[k])) (msC la[k] d c Wk[k]) := by
  obtain ⟨h1, h2, h3, h5⟩ := h
  have hz : Lm Wk[k] := h2.get hk
  have hx : Lm la[k] := hla.get hka
  have hm := msC_all hx hd h3 hz
  refine ⟨by simpa using h1, h2.set k msS_lm, hm.1, ?_⟩
  have e1 := vl_set Wd Wk k hk (msS la[k] d c Wk[k])
  have hs : Lm (msS la[k] d c Wk[k]) := msS_lm
  generalize msS la[k] d c Wk[k] = s at *
  generalize msC la[k] d c Wk[k] = cc at *
  have e2 := int_nat hz.1 hm.1.1 hs.1 h3.1 hx.1 hd.1 hm.2.symm
  rw [vl_take_succ Wd la k hka, Nat.pow_succ, Nat.mul_assoc]
  have e3 : Wd ^ k * (Wk[k].toNat + Wd * cc.toNat) = Wd ^ k * (s.toNat + la[k].toNat * d.toNat + c.toNat) := by rw [e2]
  have e4 : Wd ^ k * (la[k].toNat * d.toNat) = d.toNat * (Wd ^ k * la[k].toNat) := by rw [← Nat.mul_assoc, Nat.mul_comm]
  rw [Nat.mul_add, Nat.mul_add, Nat.mul_add, e4] at e3
  rw [Nat.mul_add d.toNat]
  omega

def MulRel (w : World) (g : Nat) (P W S la : List Int) (d : Int) (cy : Value) (k : Nat) (wr : World) : Prop :=
  ∃ Wk c, cy = .int .u64 c ∧ MulInv W la d k Wk c ∧ Bk wr g (P ++ (Wk ++ S)) ∧ w.grownBy wr (some g)
def MulPost (w : World) (g : Nat) (P W S la : List Int) (d : Int) (e : Ending) (w' : World) : Prop :=
  ∃ W', e = .returned (.tuple #[]) ∧ W'.length = W.length ∧ Lim Wd W' ∧ vl Wd W' = vl Wd W + d.toNat * vl Wd la ∧ Bk w' g (P ++ (W' ++ S)) ∧ w.grownBy w' (some g)
theorem MulInv.last {W la Wk : List Int} {d c : Int} {m : Nat} (h : MulInv W la d m Wk c) (hm : la.length = m) (hl : W.length = m + 1) (hk : m < Wk.length) (h0 : W[la.length]? = some 0) :
    (Wk.set m c).length = W.length ∧ Lim Wd (Wk.set m c) ∧ vl Wd (Wk.set m c) = vl Wd W + d.toNat * vl Wd la := by
  obtain ⟨h1, h2, h3, h4, h5⟩ := h
  refine ⟨by simpa using h1, h2.set _ h3, ?_⟩
  have e1 := vl_set Wd Wk m hk c
  subst hm
  have e2 : Wk[la.length] = 0 := by
    rw [h0, List.getElem?_eq_getElem hk] at h4
    injection h4
  rw [e2] at e1
  rw [List.take_of_length_le (Nat.le_refl _)] at h5
  have e3 : Wd ^ la.length * (0 : Int).toNat = 0 := by simp
  omega

set_option maxHeartbeats 1000000 in
theorem addProduct_any (g off n c : Nat) (A : Option Addr) (m ca : Nat) (P W S la : List Int) (d : Int) (w : World) (B : Nat) (hP : P.length = off) (hWn : W.length = n) (hW : Lim Wd W) (hbig : n ≤ 17592186044416)
    (hbk : Bk w g (P ++ (W ++ S))) (h : Rd w B A m ca la) (hB : B ≤ g) (hmn : m + 1 = n) (hd : Lm d) (htop : W[la.length]? = some 0) :
    Calls Tryz.prog 165 #[.slice (some ⟨g, off, none⟩) n c, .slice A m ca, .int .u64 d] w (MulPost w g P W S la d) := by
  have HP := Lib.hid hP; clear hP
  have HW := Lib.hid hWn; clear hWn
  have H := Lib.hid h.len
  have HT := Lib.hid htop; clear htop
  have HM := Lib.hid hmn
  have hmn' : m < n := by omega
  clear hmn
  have hcap := h.cap
  have hbig2 := h.big
  go_enter Tryz.func165, Tryz.ntmps165
  go_wp2
  go_loopw [6, 7, 8, 9, 10, 11, 12, 15] (fun cy _ _ _ _ _ _ i wr => ∃ k : Nat, k ≤ m ∧ i = .int .i64 k ∧ MulRel w g P W S la d cy k wr) (fun _ _ _ _ _ _ _ i _ => m - (intOf i).toNat)
  case atStart => exact ⟨0, Nat.zero_le _, rfl, W, 0, rfl, MulInv.zero hW, hbk, ⟨rfl, rfl, rfl, Nat.le_refl _, fun _ _ _ => rfl⟩⟩
  case round =>
    obtain ⟨k, hk, rfl, Wk, cy, rfl, hinv, hbkr, hgr⟩ := hrel
    by_cases hkm : k < m
    · obtain ⟨b, of, rfl, hb, hc⟩ := h.at_ (by omega)
      have hkl : k < la.length := by have := H.out; omega
      have hkW : k < Wk.length := by have := HW.out; have := hinv.1; omega
      have hc1 := hbkr.wcell HP.out hkW
      have hf1 := hbkr.frozen (off + k)
      have hc2 : wr.cell? ⟨b, of + k, none⟩ = _ := (World.cell?_of_block (hgr.block b (by have := hbk.lt; omega) (fun e => by injection e with e; omega))).trans (hc k hkl)
      have hz : Lm Wk[k] := hinv.2.1.get hkW
      have hx : Lm la[k] := h.lim.get hkl
      have hst := hinv.step hd h.lim hkW hkl
      have hcl := hinv.2.2.1
      have hbk' := (hbkr.wset HP.out hkW (mpS la[k] d cy Wk[k]))
      clear hc
      generalize hze : Wk[k] = z at hc1 hz hst hbk'
      have Hz := Lib.hid hze; clear hze
      generalize hxe : la[k] = x at hc2 hx hst hbk'
      have Hx := Lib.hid hxe; clear hxe
      have hkn : (k : Int) < n := by omega
      have R : MulRel w g P W S la d (.int .u64 (mpC x d cy z)) (k + 1) (wr.setCell ⟨g, off + k, none⟩ (.int .u64 (mpS x d cy z))) := ⟨_, _, rfl, hst, hbk', grownBy_trans hgr (grownBy_set _ _ _ _)⟩
      have hlmC := hst.2.2.1
      clear hst hbk' hinv hbkr
      go_wp2_with fail
      refine (mulLimb_any x d _ hx hd).mono ?_
      rintro e w' ⟨rfl, rfl⟩
      go_wp2_with fail
      refine (addLimb_any (mulL x d) cy 0 _ mulL_lm hcl Cr_zero).mono ?_
      rintro e w' ⟨rfl, rfl⟩
      go_wp2_with fail
      refine (addLimb_any z (addS (mulL x d) cy 0) 0 _ hz (addS_lm _ _ _) Cr_zero).mono ?_
      rintro e w' ⟨rfl, rfl⟩
      go_wp2
      rw [carry_wrap (mulH_lm hx hd) (addC_cr mulL_lm hcl Cr_zero) (addC_cr hz (addS_lm _ _ _) Cr_zero) hlmC]
      go_roundw
      case rel => exact ⟨k + 1, by omega, by go_num, R⟩
      case measure => simp [intOf]; omega
    · obtain rfl : m = k := by omega
      clear hk hkm
      have hkW : m < Wk.length := by have := HW.out; have := hinv.1; omega
      have hc1 := hbkr.wcell HP.out hkW
      have hf1 := hbkr.frozen (off + m)
      go_wp2
      go_end0
      obtain ⟨r1, r2, r3⟩ := hinv.last H.out (by have := HW.out; have := HM.out; omega) hkW HT.out
      exact ⟨_, rfl, r1, r2, r3, hbkr.wset HP.out hkW cy, grownBy_trans hgr (grownBy_set _ _ _ _)⟩

def SpdRel (w : World) (g : Nat) (P W S la : List Int) (d : Int) (cy : Value) (k : Nat) (wr : World) : Prop :=
  ∃ Wk c, cy = .int .u64 c ∧ SpdInv W la d k Wk c ∧ Bk wr g (P ++ (Wk ++ S)) ∧ w.grownBy wr (some g)
def SpdPost (w : World) (g : Nat) (P W S la : List Int) (d : Int) (e : Ending) (w' : World) : Prop :=
  ∃ W' c, e = .returned (.int .u64 c) ∧ Cr c ∧ W'.length = W.length ∧ Lim Wd W' ∧ vl Wd W' + d.toNat * vl Wd la = vl Wd W + Wd ^ W.length * c.toNat ∧ Bk w' g (P ++ (W' ++ S)) ∧ w.grownBy w' (some g)
theorem SpdInv.last {W la Wk : List Int} {d c : Int} {m : Nat} (h : SpdInv W la d m Wk c) (hm : la.length = m) (hl : W.length = m + 1) (hk : m < Wk.length) :
    (Wk.set m (subS Wk[m] c 0)).length = W.length ∧ Lim Wd (Wk.set m (subS Wk[m] c 0)) ∧ vl Wd (Wk.set m (subS Wk[m] c 0)) + d.toNat * vl Wd la = vl Wd W + Wd ^ W.length * (subC Wk[m] c 0).toNat := by
  obtain ⟨h1, h2, h3, h5⟩ := h
  refine ⟨by simpa using h1, h2.set _ (subS_lm _ _ _), ?_⟩
  have e1 := vl_set Wd Wk m hk (subS Wk[m] c 0)
  have e2 := sub_id (h2.get hk) h3 Cr_zero
  rw [List.take_of_length_le (by omega)] at h5
  rw [hl, Nat.pow_succ, Nat.mul_assoc]
  generalize subS Wk[m] c 0 = s at *
  generalize subC Wk[m] c 0 = cc at *
  have e3 : Wd ^ m * (s.toNat + c.toNat + (0 : Int).toNat) = Wd ^ m * (Wk[m].toNat + Wd * cc.toNat) := by rw [e2]
  simp only [Nat.mul_add] at e3
  have e4 : Wd ^ m * (0 : Int).toNat = 0 := by simp
  omega

set_option maxHeartbeats 1000000 in
theorem subProduct_any (g off n c : Nat) (A : Option Addr) (m ca : Nat) (P W S la : List Int) (d : Int) (w : World) (B : Nat) (hP : P.length = off) (hWn : W.length = n) (hW : Lim Wd W) (hbig : n ≤ 17592186044416)
    (hbk : Bk w g (P ++ (W ++ S))) (h : Rd w B A m ca la) (hB : B ≤ g) (hmn : m + 1 = n) (hd : Lm d) :
    Calls Tryz.prog 183 #[.slice (some ⟨g, off, none⟩) n c, .slice A m ca, .int .u64 d] w (SpdPost w g P W S la d) := by
  have HP := Lib.hid hP; clear hP
  have HW := Lib.hid hWn; clear hWn
  have H := Lib.hid h.len
  have HM := Lib.hid hmn
  have hmn' : m < n := by omega
  clear hmn
  have hcap := h.cap
  have hbig2 := h.big
  go_enter Tryz.func183, Tryz.ntmps183
  go_wp2
  go_loopw [7, 8, 9, 10, 11, 12, 13, 18] (fun cy _ _ _ _ _ _ i wr => ∃ k : Nat, k ≤ m ∧ i = .int .i64 k ∧ SpdRel w g P W S la d cy k wr) (fun _ _ _ _ _ _ _ i _ => m - (intOf i).toNat)
  case atStart => exact ⟨0, Nat.zero_le _, rfl, W, 0, rfl, SpdInv.zero hW, hbk, ⟨rfl, rfl, rfl, Nat.le_refl _, fun _ _ _ => rfl⟩⟩
  case round =>
    obtain ⟨k, hk, rfl, Wk, cy, rfl, hinv, hbkr, hgr⟩ := hrel
    by_cases hkm : k < m
    · obtain ⟨b, of, rfl, hb, hc⟩ := h.at_ (by omega)
      have hkl : k < la.length := by have := H.out; omega
      have hkW : k < Wk.length := by have := HW.out; have := hinv.1; omega
      have hc1 := hbkr.wcell HP.out hkW
      have hf1 := hbkr.frozen (off + k)
      have hc2 : wr.cell? ⟨b, of + k, none⟩ = _ := (World.cell?_of_block (hgr.block b (by have := hbk.lt; omega) (fun e => by injection e with e; omega))).trans (hc k hkl)
      have hz : Lm Wk[k] := hinv.2.1.get hkW
      have hx : Lm la[k] := h.lim.get hkl
      have hst := hinv.step hd h.lim hkW hkl
      have hcl := hinv.2.2.1
      have hbk' := (hbkr.wset HP.out hkW (msS la[k] d cy Wk[k]))
      clear hc
      generalize hze : Wk[k] = z at hc1 hz hst hbk'
      have Hz := Lib.hid hze; clear hze
      generalize hxe : la[k] = x at hc2 hx hst hbk'
      have Hx := Lib.hid hxe; clear hxe
      have hkn : (k : Int) < n := by omega
      have R : SpdRel w g P W S la d (.int .u64 (msC x d cy z)) (k + 1) (wr.setCell ⟨g, off + k, none⟩ (.int .u64 (msS x d cy z))) := ⟨_, _, rfl, hst, hbk', grownBy_trans hgr (grownBy_set _ _ _ _)⟩
      have hlmC := hst.2.2.1
      clear hst hbk' hinv hbkr
      go_wp2_with fail
      refine (mulLimb_any x d _ hx hd).mono ?_
      rintro e w' ⟨rfl, rfl⟩
      go_wp2_with fail
      refine (addLimb_any (mulL x d) cy 0 _ mulL_lm hcl Cr_zero).mono ?_
      rintro e w' ⟨rfl, rfl⟩
      go_wp2_with fail
      refine (subLimb_any z (addS (mulL x d) cy 0) 0 _ hz (addS_lm _ _ _) Cr_zero).mono ?_
      rintro e w' ⟨rfl, rfl⟩
      go_wp2
      rw [carry_wrap (mulH_lm hx hd) (addC_cr mulL_lm hcl Cr_zero) (subC_cr hz (addS_lm _ _ _) Cr_zero) hlmC]
      go_roundw
      case rel => exact ⟨k + 1, by omega, by go_num, R⟩
      case measure => simp [intOf]; omega
    · obtain rfl : m = k := by omega
      clear hk hkm
      have hkW : m < Wk.length := by have := HW.out; have := hinv.1; omega
      have hc1 := hbkr.wcell HP.out hkW
      have hf1 := hbkr.frozen (off + m)
      have hz : Lm Wk[m] := hinv.2.1.get hkW
      have hcl := hinv.2.2.1
      have hl := hinv.last H.out (by have := HW.out; have := HM.out; omega) hkW
      have hbk' := (hbkr.wset HP.out hkW (subS Wk[m] cy 0))
      generalize hze : Wk[m] = z at hc1 hz hl hbk'
      have Hz := Lib.hid hze; clear hze
      have HL := Lib.hid hl; clear hl
      go_wp2_with fail
      refine (subLimb_any z cy 0 _ hz hcl Cr_zero).mono ?_
      rintro e w' ⟨rfl, rfl⟩
      go_wp2
      go_ret
      obtain ⟨r1, r2, r3⟩ := HL.out
      exact ⟨_, _, rfl, subC_cr hz hcl Cr_zero, r1, r2, r3, hbk', grownBy_trans hgr (grownBy_set _ _ _ _)⟩
end
end Go.Proofs.YtbpamkpclofnbaaGreat
namespace Go.Proofs.YtbpamkpclofnbaaGreat
section
set_option maxRecDepth 100000
open Go.RowKit
set_option linter.unusedVariables false

theorem Bk.whole {w : World} {g : Nat} {l : List Int} (h : Bk w g l) {B n c : Nat} (hB : g < B) (hn : l.length = n) (hc : n ≤ c) (hb : c ≤ 17592186044416) (hl : Lim Wd l) : Rd w B (some ⟨g, 0, none⟩) n c l := by
  have := h.rd (B := B) (off := 0) (n := n) (c := c) hB (by omega) hc hb hl
  subst hn
  simpa using this
theorem splice_zeros {l : List Int} {n m : Nat} (hl : l.length = n) (h : n ≤ m) : splice (List.replicate m 0) 0 l = l ++ List.replicate (m - n) 0 := by simp [splice, hl]
theorem vl_zeros_top (b : Nat) (l : List Int) (k : Nat) : vl b (l ++ List.replicate k 0) = vl b l := by rw [vl_append, vl_replicate]; simp
theorem Wd0 : 0 < Wd := Nat.lt_of_lt_of_le (by omega) Wd2
theorem Lim_zeros_top {l : List Int} (h : Lim Wd l) (k : Nat) : Lim Wd (l ++ List.replicate k 0) := Lim_append.2 ⟨h, Lim_replicate Wd0 k⟩

theorem add_end {W' : List Int} {c : Int} {N M m : Nat} (hc : Cr c) (h : vl Wd W' + Wd ^ (m + 1) * c.toNat = N + M) (hN : N < Wd ^ m) (hM : M < Wd ^ m) : vl Wd W' = N + M := by
  rcases hc with rfl | rfl
  · rw [show (0 : Int).toNat = 0 from rfl, Nat.mul_zero, Nat.add_zero] at h
    exact h
  · exfalso
    rw [Nat.pow_succ] at h
    have h2 : Wd ^ m * 2 ≤ Wd ^ m * Wd := Nat.mul_le_mul_left _ Wd2
    have h3 : (1 : Int).toNat = 1 := rfl
    rw [h3, Nat.mul_one] at h
    generalize Wd ^ m * Wd = r at *
    generalize Wd ^ m = q at *
    omega

theorem dg_lt {b : Nat} (hb : 2 ≤ b) {N n : Nat} (h : (dg b N).length ≤ n) : N < b ^ n := by
  have := vl_lt (Lim_dg hb N)
  rw [vl_dg hb] at this
  exact Nat.lt_of_lt_of_le this (Nat.pow_le_pow_right (by omega) h)

set_option maxHeartbeats 1000000 in
theorem Add_any (A A2 : Option Addr) (n c n2 c2 : Nat) (l m : List Int) (w : World) (h : Rd w w.heap.size A n c l) (h2 : Rd w w.heap.size A2 n2 c2 m) (hn : n ≤ 1099511627776) (hn2 : n2 ≤ 1099511627776) :
    Calls Tryz.prog 132 #[.slice A n c, .slice A2 n2 c2] w (Out w (vl Wd l + vl Wd m)) := by
  have hNn := dg_len_le Wd2 (h.len ▸ vl_lt h.lim : vl Wd l < Wd ^ n)
  have hMn := dg_len_le Wd2 (h2.len ▸ vl_lt h2.lim : vl Wd m < Wd ^ n2)
  generalize hN : vl Wd l = N at *
  generalize hM : vl Wd m = M at *
  have HN := Lib.hid hN; clear hN
  have HM := Lib.hid hM; clear hM
  go_enter Tryz.func132, Tryz.ntmps132
  go_wp2_with fail
  refine (trim_any _ _ _ _ _ _ h).mono ?_
  rintro e w' ⟨A', n', c', rfl, hrd, rfl⟩
  go_wp2_with fail
  refine (trim_any _ _ _ _ _ _ h2).mono ?_
  rintro e w' ⟨A2', n2', c2', rfl, hrd2, rfl⟩
  rw [HN.out] at hrd
  rw [HM.out] at hrd2
  clear h h2
  have H := Lib.hid hrd.len
  have H2 := Lib.hid hrd2.len
  have hs1 : n' ≤ 1099511627776 := by have := H.out; omega
  have hs2 : n2' ≤ 1099511627776 := by have := H2.out; omega
  clear hNn hMn hn hn2
  by_cases hlt : n' < n2'
  · go_wp2_with (first
      | (at_make; refine wp_make64 rfl _ _ rfl (n2' + 1) _ _ rfl rfl (by simp) (by simp) (by omega) ?_; intro w1 hbk1 hb1; have hrd1 := hrd.below hb1; have hrd21 := hrd2.below hb1)
      | ((with_reducible refine wp_copy64 rfl (.tmp 21) (.tmp 22) rfl w.heap.size 0 (n2' + 1) (n2' + 1) A2' n2' c2' rfl rfl _ _ hbk1 _ hrd21 (by omega) (by simp) ?_); intro w2 hbk2 hg2))
    rw [splice_zeros H2.out (by omega), show n2' + 1 - n2' = 1 by omega] at hbk2
    have hb2 := grow_below hb1 hb1.size hg2 (Nat.le_refl _)
    have hrd2' := hrd1.below (grow_below (Below.refl _ _) hb1.size hg2 (Nat.le_refl _))
    refine (addTo_any w.heap.size 0 (n2' + 1) (n2' + 1) A' n' c' [] _ [] _ _ _ rfl (by simpa using H2.out) (Lim_zeros_top hrd2.lim 1) (by omega) (by simpa using hbk2) hrd2' (Nat.le_refl _) (by omega)).mono ?_
    rintro e w3 ⟨W', cc, rfl, q1, q2, q3, q4, q5, q6⟩
    have hb3 := grow_below hb2 hb2.size q6 (Nat.le_refl _)
    have hlen : W'.length = n2' + 1 := by rw [q1]; simpa using H2.out
    rw [vl_zeros_top, vl_dg Wd2, vl_dg Wd2, ← q1, hlen] at q4
    have hval := add_end q3 q4 (dg_lt Wd2 (Nat.le_of_eq H2.out)) (dg_lt Wd2 (by have := H.out; omega))
    simp only [List.nil_append, List.append_nil] at q5
    have hw3 := q5.whole (B := w3.heap.size) (n := n2' + 1) (c := n2' + 1) q5.lt hlen (Nat.le_refl _) (by omega) q2
    have HV := Lib.hid hval
    clear hval q4 q1 q3 hlen
    go_wp2_with fail
    refine (trim_any _ _ _ _ _ _ hw3).mono ?_
    rintro e w' ⟨A5, n5, c5, rfl, hrd5, rfl⟩
    go_wp2
    go_ret
    exact ⟨_, _, _, rfl, by rw [HV.out, Nat.add_comm] at hrd5; exact hrd5, hb3⟩
  · go_wp2_with (first
      | (at_make; refine wp_make64 rfl _ _ rfl (n' + 1) _ _ rfl rfl (by simp) (by simp) (by omega) ?_; intro w1 hbk1 hb1; have hrd1 := hrd2.below hb1; have hrd21 := hrd.below hb1)
      | ((with_reducible refine wp_copy64 rfl (.tmp 21) (.tmp 22) rfl w.heap.size 0 (n' + 1) (n' + 1) A' n' c' rfl rfl _ _ hbk1 _ hrd21 (by omega) (by simp) ?_); intro w2 hbk2 hg2))
    rw [splice_zeros H.out (by omega), show n' + 1 - n' = 1 by omega] at hbk2
    have hb2 := grow_below hb1 hb1.size hg2 (Nat.le_refl _)
    have hrd2' := hrd1.below (grow_below (Below.refl _ _) hb1.size hg2 (Nat.le_refl _))
    refine (addTo_any w.heap.size 0 (n' + 1) (n' + 1) A2' n2' c2' [] _ [] _ _ _ rfl (by simpa using H.out) (Lim_zeros_top hrd.lim 1) (by omega) (by simpa using hbk2) hrd2' (Nat.le_refl _) (by omega)).mono ?_
    rintro e w3 ⟨W', cc, rfl, q1, q2, q3, q4, q5, q6⟩
    have hb3 := grow_below hb2 hb2.size q6 (Nat.le_refl _)
    have hlen : W'.length = n' + 1 := by rw [q1]; simpa using H.out
    rw [vl_zeros_top, vl_dg Wd2, vl_dg Wd2, ← q1, hlen] at q4
    have hval := add_end q3 q4 (dg_lt Wd2 (Nat.le_of_eq H.out)) (dg_lt Wd2 (by have := H2.out; omega))
    simp only [List.nil_append, List.append_nil] at q5
    have hw3 := q5.whole (B := w3.heap.size) (n := n' + 1) (c := n' + 1) q5.lt hlen (Nat.le_refl _) (by omega) q2
    have HV := Lib.hid hval
    clear hval q4 q1 q3 hlen
    go_wp2_with fail
    refine (trim_any _ _ _ _ _ _ hw3).mono ?_
    rintro e w' ⟨A5, n5, c5, rfl, hrd5, rfl⟩
    go_wp2
    go_ret
    exact ⟨_, _, _, rfl, by rw [HV.out] at hrd5; exact hrd5, hb3⟩

set_option maxHeartbeats 1000000 in
theorem Sub_less (A A2 : Option Addr) (n c n2 c2 : Nat) (l m : List Int) (w : World) (h : Rd w w.heap.size A n c l) (h2 : Rd w w.heap.size A2 n2 c2 m) (hn : n ≤ 1099511627776) (hlt : vl Wd l < vl Wd m) :
    Calls Tryz.prog 133 #[.slice A n c, .slice A2 n2 c2] w fun e w' => e = .returned (.tuple #[.slice none 0 0, .bool false]) ∧ Quiet w w' := by
  have hc : cmpI (vl Wd l) (vl Wd m) = -1 := by simp [cmpI, hlt]
  have HC := Lib.hid hc; clear hc
  go_enter Tryz.func133, Tryz.ntmps133
  go_wp2_with fail
  refine (Cmp_any _ _ _ _ _ _ _ _ _ _ h h2).mono ?_
  rintro e w1 ⟨rfl, hq⟩
  rw [HC.out]
  go_wp2
  go_ret2
  exact ⟨rfl, hq⟩

/-- What two results hold: a slice that reads as the number N, and true. -/
def Out2 (w : World) (N : Nat) (e : Ending) (w' : World) : Prop := ∃ A n c, e = .returned (.tuple #[.slice A n c, .bool true]) ∧ Rd w' w'.heap.size A n c (dg Wd N) ∧ Below w.heap.size w w'

set_option maxHeartbeats 400000 in
theorem subFrom_nil (A A2 : Option Addr) (c c2 : Nat) (w : World) :
    Calls Tryz.prog 164 #[.slice A 0 c, .slice A2 0 c2] w fun e w' => e = .returned (.tuple #[]) ∧ w = w' := by
  go_enter Tryz.func164, Tryz.ntmps164
  go_wp2
  refine wp_loop_rounds 1 ?_
  rw [rounds_succ]
  go_wp2
  refine wp_loop_rounds 1 ?_
  rw [rounds_succ]
  go_wp2
  go_end0
  exact ⟨rfl, rfl⟩

set_option maxHeartbeats 1000000 in
theorem Sub_any (A A2 : Option Addr) (n c n2 c2 : Nat) (l m : List Int) (w : World) (h : Rd w w.heap.size A n c l) (h2 : Rd w w.heap.size A2 n2 c2 m) (hn : n ≤ 1099511627776) (hle : vl Wd m ≤ vl Wd l) :
    Calls Tryz.prog 133 #[.slice A n c, .slice A2 n2 c2] w (Out2 w (vl Wd l - vl Wd m)) := by
  have hc : 0 ≤ cmpI (vl Wd l) (vl Wd m) := by unfold cmpI; split <;> (try split) <;> omega
  have hc' : decide (cmpI (vl Wd l) (vl Wd m) < 0) = false := by simp; omega
  generalize hcm : cmpI (vl Wd l) (vl Wd m) = cm at *
  have HC := Lib.hid hcm; clear hcm
  have hmB := h2.lim
  generalize hN : vl Wd l = N at *
  have HN := Lib.hid hN; clear hN
  generalize hM : vl Wd m = M at *
  have HM := Lib.hid hM; clear hM
  go_enter Tryz.func133, Tryz.ntmps133
  go_wp2_with fail
  refine (Cmp_any _ _ _ _ _ _ _ _ _ _ h h2).mono ?_
  rintro e w1 ⟨rfl, hq⟩
  rw [HN.out, HM.out, HC.out]
  have hsz := hq.size
  have h1 := h.below (hq.below (B := w.heap.size))
  have h21 := h2.below (hq.below (B := w.heap.size))
  rw [← hsz] at h1 h21
  have hbq := hq.below (B := w.heap.size)
  have HS := Lib.hid hsz; clear hsz h h2 hq
  go_wp2_with fail
  refine (Norm_own _ _ _ _ _ _ h1 (Nat.le_refl _)).mono ?_
  rintro e w2 ⟨hb2, hpost⟩
  rw [HN.out] at hpost
  have h22 := h21.below hb2
  rcases hpost with ⟨p1, rfl⟩ | ⟨p1, p2, rfl, p4⟩
  · have hN0 : N = 0 := (dg_eq_nil Wd2).1 p1
    have hM0 : M = 0 := by omega
    subst hN0 hM0
    go_wp2_with fail
    refine (trim_any _ _ _ _ _ _ h22).mono ?_
    rintro e w' ⟨A3, n3, c3, rfl, hrd3, rfl⟩
    rw [HM.out, dg_zero] at hrd3
    have hl3 : 0 = n3 := hrd3.len
    subst hl3
    go_wp2_with fail
    refine (subFrom_nil _ _ _ _ _).mono ?_
    rintro e w' ⟨rfl, rfl⟩
    go_wp2_with fail
    refine (trim_any _ _ _ _ _ w2.heap.size Rd.nil).mono ?_
    rintro e w' ⟨A5, n5, c5, rfl, hrd5, rfl⟩
    go_wp2
    go_ret2
    exact ⟨_, _, _, rfl, hrd5, hbq.trans (by rw [← HS.out]; exact hb2)⟩
  · go_wp2_with fail
    refine (trim_any _ _ _ _ _ _ h22).mono ?_
    rintro e w' ⟨A3, n3, c3, rfl, hrd3, rfl⟩
    rw [HM.out] at hrd3
    have hl3 := hrd3.len
    have hmono := dg_len_mono Wd2 hle
    have hle3 : n3 ≤ (dg Wd N).length := by omega
    have hlen : (dg Wd N).length ≤ n := p2
    clear hl3 hmono
    go_wp2_with fail
    refine (subFrom_any w1.heap.size 0 _ _ A3 n3 c3 [] (dg Wd N) [] (dg Wd M) _ _ rfl rfl (Lim_dg Wd2 _) (by omega) (by simpa using p4) hrd3 (Nat.le_refl _) hle3 (by rw [vl_dg Wd2, vl_dg Wd2]; exact hle)).mono ?_
    rintro e w3 ⟨W', rfl, q1, q2, q4, q5, q6⟩
    rw [vl_dg Wd2, vl_dg Wd2] at q4
    simp only [List.nil_append, List.append_nil] at q5
    have hb3 := grow_below hb2 hb2.size q6 (Nat.le_refl _)
    have hw3 := q5.whole (B := w3.heap.size) (n := (dg Wd N).length) (c := (dg Wd N).length) q5.lt q1 (Nat.le_refl _) (by omega) q2
    have HV := Lib.hid (show vl Wd W' = N - M by omega)
    clear q4 q1
    go_wp2_with fail
    refine (trim_any _ _ _ _ _ _ hw3).mono ?_
    rintro e w' ⟨A5, n5, c5, rfl, hrd5, rfl⟩
    go_wp2
    go_ret2
    exact ⟨_, _, _, rfl, by rw [HV.out] at hrd5; exact hrd5, hbq.trans (by rw [← HS.out]; exact hb3)⟩

theorem zero_at {l : List Int} (h : Lim Wd l) {j : Nat} (hj : j < l.length) (hv : vl Wd l < Wd ^ j) : l[j] = 0 := by
  have h1 := vl_split Wd l j (by omega)
  rw [vl_drop_step Wd l j hj] at h1
  have h2 := h.get hj
  rcases Nat.eq_zero_or_pos l[j].toNat with h0 | h0
  · omega
  · exfalso
    have : Wd ^ j * 1 ≤ Wd ^ j * (l[j].toNat + Wd * vl Wd (l.drop (j + 1))) := Nat.mul_le_mul_left _ (by omega)
    rw [Nat.mul_one] at this
    generalize Wd ^ j * (l[j].toNat + Wd * vl Wd (l.drop (j + 1))) = r at *
    omega

/-- The product under way: its limbs R; k limbs of lb are done. -/
def MRel (w : World) (g : Nat) (la lb : List Int) (k : Nat) (wr : World) : Prop :=
  ∃ R, R.length = la.length + lb.length ∧ Lim Wd R ∧ vl Wd R = vl Wd la * vl Wd (lb.take k) ∧ Bk wr g R ∧ Below g w wr

theorem cut3 (R : List Int) (i j : Nat) : R = R.take i ++ ((R.drop i).take j ++ R.drop (i + j)) := by
  have h1 := List.take_append_drop j (R.drop i)
  rw [List.drop_drop] at h1
  rw [h1, List.take_append_drop]
theorem vl3 (P W S : List Int) : vl Wd (P ++ (W ++ S)) = vl Wd P + Wd ^ P.length * (vl Wd W + Wd ^ W.length * vl Wd S) := by rw [vl_append, vl_append]
theorem MRel.next {la lb R W' : List Int} {k : Nat} (hk : k < lb.length) (hlen : R.length = la.length + lb.length) (hv : vl Wd R = vl Wd la * vl Wd (lb.take k)) (hW : W'.length = ((R.drop k).take (la.length + 1)).length)
    (hW' : vl Wd W' = vl Wd ((R.drop k).take (la.length + 1)) + lb[k].toNat * vl Wd la) :
    vl Wd (R.take k ++ (W' ++ R.drop (k + (la.length + 1)))) = vl Wd la * vl Wd (lb.take (k + 1)) := by
  have e1 := congrArg (vl Wd) (cut3 R k (la.length + 1))
  rw [vl3] at e1
  rw [vl3, hW, hW']
  have hPk : (R.take k).length = k := by simp; omega
  rw [hPk] at e1 ⊢
  rw [vl_take_succ Wd lb k hk, Nat.mul_add (vl Wd la), ← hv, e1]
  generalize vl Wd ((R.drop k).take (la.length + 1)) = a
  generalize Wd ^ ((R.drop k).take (la.length + 1)).length * vl Wd (R.drop (k + (la.length + 1))) = b
  generalize vl Wd (R.take k) = p
  have e2 : Wd ^ k * (a + lb[k].toNat * vl Wd la + b) = Wd ^ k * (a + b) + Wd ^ k * (lb[k].toNat * vl Wd la) := by rw [← Nat.mul_add]; congr 1; omega
  rw [e2]
  have e3 : Wd ^ k * (lb[k].toNat * vl Wd la) = vl Wd la * (Wd ^ k * lb[k].toNat) := by rw [Nat.mul_comm (vl Wd la), Nat.mul_assoc]
  rw [e3, Nat.add_assoc]

set_option maxRecDepth 100000 in
set_option maxHeartbeats 1000000 in
/-- The product's loop and end, the longer factor first. -/
theorem Mul_any (A A2 : Option Addr) (n c n2 c2 : Nat) (l m : List Int) (w : World) (h : Rd w w.heap.size A n c l) (h2 : Rd w w.heap.size A2 n2 c2 m) (hn : n ≤ 1099511627776) (hn2 : n2 ≤ 1099511627776) :
    Calls Tryz.prog 134 #[.slice A n c, .slice A2 n2 c2] w (Out w (vl Wd l * vl Wd m)) := by
  have hNn := dg_len_le Wd2 (h.len ▸ vl_lt h.lim : vl Wd l < Wd ^ n)
  have hMn := dg_len_le Wd2 (h2.len ▸ vl_lt h2.lim : vl Wd m < Wd ^ n2)
  generalize hN : vl Wd l = N at *
  generalize hM : vl Wd m = M at *
  have HN := Lib.hid hN; clear hN
  have HM := Lib.hid hM; clear hM
  go_enter Tryz.func134, Tryz.ntmps134
  go_wp2_with fail
  refine (trim_any _ _ _ _ _ _ h).mono ?_
  rintro e w' ⟨A', n', c', rfl, hrd, rfl⟩
  go_wp2_with fail
  refine (trim_any _ _ _ _ _ _ h2).mono ?_
  rintro e w' ⟨A2', n2', c2', rfl, hrd2, rfl⟩
  rw [HN.out] at hrd
  rw [HM.out] at hrd2
  clear h h2
  have H := Lib.hid hrd.len
  have H2 := Lib.hid hrd2.len
  have hs1 : n' ≤ 1099511627776 := by have := H.out; omega
  have hs2 : n2' ≤ 1099511627776 := by have := H2.out; omega
  have hcap := hrd.cap
  have hcap2 := hrd2.cap
  have hbig := hrd.big
  have hbig2 := hrd2.big
  clear hNn hMn hn hn2
  by_cases hlt : n' < n2'
  · by_cases h0 : n' = 0
    · subst h0
      go_wp2
      go_ret
      have : N = 0 := (dg_eq_nil Wd2).1 (List.eq_nil_of_length_eq_zero H.out)
      subst this
      exact ⟨_, _, _, rfl, by rw [Nat.zero_mul, dg_zero]; exact Rd.nil, Below.refl _ _⟩
    · have hb0 : ((n' : Int) == 0) = false := by simp; omega
      obtain ⟨T, hT⟩ : ∃ T, T = n2' + n' := ⟨_, rfl⟩
      have HT := Lib.hid hT; clear hT
      go_wp2_with (at_make; refine wp_make64 rfl _ _ rfl T _ _ rfl rfl (by have := HT.out; omega) (by have := HT.out; omega) (by have := HT.out; omega) ?_; intro w1 hbk1 hb1)
      go_loopw [6, 7, 30] (fun _ _ i wr => ∃ k : Nat, k ≤ n' ∧ i = .int .i64 k ∧ MRel w w.heap.size (dg Wd M) (dg Wd N) k wr) (fun _ _ i _ => n' - (intOf i).toNat)
      case atStart => exact ⟨0, Nat.zero_le _, rfl, _, by simp [H2.out, H.out, HT.out], Lim_replicate Wd0 _, by rw [vl_replicate]; rfl, hbk1, hb1⟩
      case round =>
        obtain ⟨k, hk, rfl, R, r1, r2, r3, r4, r5⟩ := hrel
        have HR := Lib.hid r1; clear r1
        have HV := Lib.hid r3; clear r3
        by_cases hkm : k < n'
        · have hrdr := (hrd2.below r5)
          obtain ⟨b, of, rfl, hb, hc⟩ := (hrd.below r5).at_ (by omega)
          have hkl : k < (dg Wd N).length := by have := H.out; omega
          have hc1 := hc k hkl
          have hy : Lm (dg Wd N)[k] := (Lim_dg Wd2 N).get hkl
          clear hc hbk1
          generalize hye : (dg Wd N)[k] = y at hc1 hy
          have Hy := Lib.hid hye; clear hye
          obtain ⟨E, hE⟩ : ∃ E, E = k + n2' + 1 := ⟨_, rfl⟩
          have e1 : (k : Int) + n2' + 1 = E := by omega
          have hkE : k ≤ E := by omega
          have hET : E ≤ T := by have := HT.out; omega
          have hEk : ¬ E = k := by omega
          have HE := Lib.hid hE; clear hE
          go_wp2
          refine wp_region_still_tail 10 (by kernel_rfl) (by kernel_rfl) ?_
          change wpStill _ _ wr.drew (fun a' => wpList _ _ _ _ a' wr.drew) _ _
          have hd1 : wr.drew.cell? ⟨b, of + k, none⟩ = _ := hc1
          have r4' := r4.drew
          have r5' := r5.drew
          have hrdr' := hrd2.below r5'
          generalize wr.drew = w4 at *
          clear hc1 r4 r5 hrdr
          simp only [List.take_succ_cons, List.take_zero, List.drop_succ_cons, List.drop_zero]
          repeat still_step
          refine wpStill_nil ?_
          have hlk : (R.take k).length = k := by have := HR.out; have := H2.out; have := H.out; simp; omega
          have hlW : ((R.drop k).take (n2' + 1)).length = E - k := by have := HR.out; have := H2.out; have := H.out; have := HE.out; simp; omega
          have hlW2 : ((R.drop k).take (n2' + 1)).length = n2' + 1 := by have := HE.out; omega
          have htop : ((R.drop k).take (n2' + 1))[(dg Wd M).length]? = some 0 := by
            have hj : k + n2' < R.length := by have := HR.out; have := H2.out; have := H.out; omega
            rw [H2.out, List.getElem?_take_of_lt (by omega), List.getElem?_drop, List.getElem?_eq_getElem hj]
            congr 1
            refine zero_at r2 hj ?_
            rw [HV.out, vl_dg Wd2, Nat.add_comm, Nat.pow_add]
            have b1 : M < Wd ^ n2' := dg_lt Wd2 (Nat.le_of_eq H2.out)
            have b2 := vl_lt ((Lim_dg Wd2 N).take k)
            rw [List.length_take, Nat.min_eq_left (by omega)] at b2
            exact Nat.mul_lt_mul'' b1 b2
          have hR4 : Bk w4 w.heap.size (R.take k ++ ((R.drop k).take (n2' + 1) ++ R.drop (k + (n2' + 1)))) := by rw [← cut3]; exact r4'
          have HlW := Lib.hid hlW; have HlW2 := Lib.hid hlW2; have Hlk := Lib.hid hlk; have Htop := Lib.hid htop
          clear hlW hlW2 hlk htop
          go_wp2_with (go_at_call 165; refine (addProduct_any w.heap.size k (E - k) (E - k) A2' n2' c2' _ _ _ _ y w4 _ Hlk.out HlW.out ((r2.drop k).take _) (by omega) hR4 hrdr' (Nat.le_refl _) (by have := HE.out; omega) hy Htop.out).mono ?_; rintro e w5 ⟨W', rfl, q1, q2, q4, q5, q6⟩)
          have hb5 := grow_below r5' r5'.size q6 (Nat.le_refl _)
          go_roundw
          case rel =>
            refine ⟨k + 1, by omega, by go_num, _, ?_, Lim_append.2 ⟨r2.take k, Lim_append.2 ⟨q2, r2.drop _⟩⟩, ?_, q5, hb5⟩
            · have := HR.out; have := H2.out; have := H.out; have := HlW2.out; rw [List.length_append, List.length_append, q1]; simp; omega
            · have hx := MRel.next (R := R) (W' := W') hkl HR.out HV.out (by rw [H2.out]; exact q1) (by rw [H2.out, Hy.out]; exact q4)
              rw [H2.out] at hx
              exact hx
          case measure => simp [intOf]; omega
        · obtain rfl : n' = k := by omega
          have hval : vl Wd R = N * M := by rw [HV.out, List.take_of_length_le (Nat.le_of_eq H.out), vl_dg Wd2, vl_dg Wd2, Nat.mul_comm]
          have HV2 := Lib.hid hval; clear hval
          have hw3 := r4.whole (B := wr.heap.size) (n := T) (c := T) r4.lt (by rw [HR.out, H2.out, H.out, HT.out]) (Nat.le_refl _) (by have := HT.out; omega) r2
          go_wp2_with fail
          refine (trim_any _ _ _ _ _ _ hw3).mono ?_
          rintro e w' ⟨A5, n5, c5, rfl, hrd5, rfl⟩
          go_wp2
          go_ret
          exact ⟨_, _, _, rfl, by rw [HV2.out] at hrd5; exact hrd5, r5⟩
  · by_cases h0 : n2' = 0
    · subst h0
      go_wp2
      go_ret
      have : M = 0 := (dg_eq_nil Wd2).1 (List.eq_nil_of_length_eq_zero H2.out)
      subst this
      exact ⟨_, _, _, rfl, by rw [Nat.mul_zero, dg_zero]; exact Rd.nil, Below.refl _ _⟩
    · have hb0 : ((n2' : Int) == 0) = false := by simp; omega
      obtain ⟨T, hT⟩ : ∃ T, T = n' + n2' := ⟨_, rfl⟩
      have HT := Lib.hid hT; clear hT
      go_wp2_with (at_make; refine wp_make64 rfl _ _ rfl T _ _ rfl rfl (by have := HT.out; omega) (by have := HT.out; omega) (by have := HT.out; omega) ?_; intro w1 hbk1 hb1)
      go_loopw [6, 7, 30] (fun _ _ i wr => ∃ k : Nat, k ≤ n2' ∧ i = .int .i64 k ∧ MRel w w.heap.size (dg Wd N) (dg Wd M) k wr) (fun _ _ i _ => n2' - (intOf i).toNat)
      case atStart => exact ⟨0, Nat.zero_le _, rfl, _, by simp [H.out, H2.out, HT.out], Lim_replicate Wd0 _, by rw [vl_replicate]; rfl, hbk1, hb1⟩
      case round =>
        obtain ⟨k, hk, rfl, R, r1, r2, r3, r4, r5⟩ := hrel
        have HR := Lib.hid r1; clear r1
        have HV := Lib.hid r3; clear r3
        by_cases hkm : k < n2'
        · have hrdr := (hrd.below r5)
          obtain ⟨b, of, rfl, hb, hc⟩ := (hrd2.below r5).at_ (by omega)
          have hkl : k < (dg Wd M).length := by have := H2.out; omega
          have hc1 := hc k hkl
          have hy : Lm (dg Wd M)[k] := (Lim_dg Wd2 M).get hkl
          clear hc hbk1
          generalize hye : (dg Wd M)[k] = y at hc1 hy
          have Hy := Lib.hid hye; clear hye
          obtain ⟨E, hE⟩ : ∃ E, E = k + n' + 1 := ⟨_, rfl⟩
          have e1 : (k : Int) + n' + 1 = E := by omega
          have hkE : k ≤ E := by omega
          have hET : E ≤ T := by have := HT.out; omega
          have hEk : ¬ E = k := by omega
          have HE := Lib.hid hE; clear hE
          go_wp2
          refine wp_region_still_tail 10 (by kernel_rfl) (by kernel_rfl) ?_
          change wpStill _ _ wr.drew (fun a' => wpList _ _ _ _ a' wr.drew) _ _
          have hd1 : wr.drew.cell? ⟨b, of + k, none⟩ = _ := hc1
          have r4' := r4.drew
          have r5' := r5.drew
          have hrdr' := hrd.below r5'
          generalize wr.drew = w4 at *
          clear hc1 r4 r5 hrdr
          simp only [List.take_succ_cons, List.take_zero, List.drop_succ_cons, List.drop_zero]
          repeat still_step
          refine wpStill_nil ?_
          have hlk : (R.take k).length = k := by have := HR.out; have := H.out; have := H2.out; simp; omega
          have hlW : ((R.drop k).take (n' + 1)).length = E - k := by have := HR.out; have := H.out; have := H2.out; have := HE.out; simp; omega
          have hlW2 : ((R.drop k).take (n' + 1)).length = n' + 1 := by have := HE.out; omega
          have htop : ((R.drop k).take (n' + 1))[(dg Wd N).length]? = some 0 := by
            have hj : k + n' < R.length := by have := HR.out; have := H.out; have := H2.out; omega
            rw [H.out, List.getElem?_take_of_lt (by omega), List.getElem?_drop, List.getElem?_eq_getElem hj]
            congr 1
            refine zero_at r2 hj ?_
            rw [HV.out, vl_dg Wd2, Nat.add_comm, Nat.pow_add]
            have b1 : N < Wd ^ n' := dg_lt Wd2 (Nat.le_of_eq H.out)
            have b2 := vl_lt ((Lim_dg Wd2 M).take k)
            rw [List.length_take, Nat.min_eq_left (by omega)] at b2
            exact Nat.mul_lt_mul'' b1 b2
          have hR4 : Bk w4 w.heap.size (R.take k ++ ((R.drop k).take (n' + 1) ++ R.drop (k + (n' + 1)))) := by rw [← cut3]; exact r4'
          have HlW := Lib.hid hlW; have HlW2 := Lib.hid hlW2; have Hlk := Lib.hid hlk; have Htop := Lib.hid htop
          clear hlW hlW2 hlk htop
          go_wp2_with (go_at_call 165; refine (addProduct_any w.heap.size k (E - k) (E - k) A' n' c' _ _ _ _ y w4 _ Hlk.out HlW.out ((r2.drop k).take _) (by omega) hR4 hrdr' (Nat.le_refl _) (by have := HE.out; omega) hy Htop.out).mono ?_; rintro e w5 ⟨W', rfl, q1, q2, q4, q5, q6⟩)
          have hb5 := grow_below r5' r5'.size q6 (Nat.le_refl _)
          go_roundw
          case rel =>
            refine ⟨k + 1, by omega, by go_num, _, ?_, Lim_append.2 ⟨r2.take k, Lim_append.2 ⟨q2, r2.drop _⟩⟩, ?_, q5, hb5⟩
            · have := HR.out; have := H.out; have := H2.out; have := HlW2.out; rw [List.length_append, List.length_append, q1]; simp; omega
            · have hx := MRel.next (R := R) (W' := W') hkl HR.out HV.out (by rw [H.out]; exact q1) (by rw [H.out, Hy.out]; exact q4)
              rw [H.out] at hx
              exact hx
          case measure => simp [intOf]; omega
        · obtain rfl : n2' = k := by omega
          have hval : vl Wd R = N * M := by rw [HV.out, List.take_of_length_le (Nat.le_of_eq H2.out), vl_dg Wd2, vl_dg Wd2]
          have HV2 := Lib.hid hval; clear hval
          have hw3 := r4.whole (B := wr.heap.size) (n := T) (c := T) r4.lt (by rw [HR.out, H.out, H2.out, HT.out]) (Nat.le_refl _) (by have := HT.out; omega) r2
          go_wp2_with fail
          refine (trim_any _ _ _ _ _ _ hw3).mono ?_
          rintro e w' ⟨A5, n5, c5, rfl, hrd5, rfl⟩
          go_wp2
          go_ret
          exact ⟨_, _, _, rfl, by rw [HV2.out] at hrd5; exact hrd5, r5⟩
end
end Go.Proofs.YtbpamkpclofnbaaGreat
namespace Go.Proofs.YtbpamkpclofnbaaGreat
section
set_option maxRecDepth 100000
open Go.RowKit
set_option linter.unusedVariables false

/-- How many bits a number has. -/
def bl (n : Nat) : Nat := (dg 2 n).length
theorem bl_le {n k : Nat} (h : n < 2 ^ k) : bl n ≤ k := dg_len_le (by omega) h
theorem lt_bl (n : Nat) : n < 2 ^ bl n := dg_lt (by omega) (Nat.le_refl _)
theorem bl_ge {n k : Nat} (h : 2 ^ k ≤ n) : k < bl n := by
  rcases Nat.lt_or_ge k (bl n) with h1 | h1
  · exact h1
  · have := lt_bl n
    have := Nat.pow_le_pow_right (n := 2) (by omega) h1
    omega
theorem le_of_bl {n k : Nat} (h : k < bl n) : 2 ^ k ≤ n := by
  rcases Nat.lt_or_ge n (2 ^ k) with h1 | h1
  · have := bl_le h1; omega
  · exact h1
theorem bl_eq {n k : Nat} (h1 : n < 2 ^ k) (h2 : 0 < k → 2 ^ (k - 1) ≤ n) : bl n = k := by
  have := bl_le h1
  rcases Nat.eq_zero_or_pos k with h | h
  · omega
  · have := bl_ge (h2 h); omega
theorem bl_div {n s : Nat} (h : 2 ^ s ≤ n) : bl (n / 2 ^ s) + s = bl n := by
  have h0 : 0 < n / 2 ^ s := Nat.div_pos h (Nat.two_pow_pos s)
  have h1 := lt_bl (n / 2 ^ s)
  have hb : 0 < bl (n / 2 ^ s) := bl_ge (k := 0) (by omega)
  have h2 := le_of_bl (n := n / 2 ^ s) (k := bl (n / 2 ^ s) - 1) (by omega)
  symm
  refine bl_eq ?_ (fun _ => ?_)
  · rw [Nat.pow_add]; exact (Nat.div_lt_iff_lt_mul (Nat.two_pow_pos s)).1 h1
  · rw [show bl (n / 2 ^ s) + s - 1 = (bl (n / 2 ^ s) - 1) + s by omega, Nat.pow_add]
    exact (Nat.le_div_iff_mul_le (Nat.two_pow_pos s)).1 h2
theorem bl_zero : bl 0 = 0 := bl_eq (by simp) (fun h => absurd h (by omega))
theorem bl_one : bl 1 = 1 := bl_eq (by simp) (fun _ => by simp)

def LenInv (x : Int) (p : Nat) (x' s : Int) : Prop := 0 ≤ x' ∧ x'.toNat < 2 ^ p ∧ 0 ≤ s ∧ s.toNat + bl x'.toNat = bl x.toNat
/-- The bits that may be left at the head of each round. -/
def pw (k : Nat) : Nat := 64 / 2 ^ k
theorem bl_limb {x : Int} (hx : Lm x) : bl x.toNat ≤ 64 := bl_le (by unfold Lm at hx; rw [Wd_eq] at hx; omega)
theorem LenInv.s64 {x x' s : Int} {p : Nat} (hx : Lm x) (h : LenInv x p x' s) : 0 ≤ s ∧ s ≤ 64 := by
  have := bl_limb hx
  obtain ⟨_, _, h3, h4⟩ := h
  omega
theorem LenInv.yes {x x' s : Int} {p : Nat} (h : LenInv x (p + p) x' s) (D : Int) (hD : D = ((2 ^ p : Nat) : Int)) (h0 : (x' / D != 0) = true) : LenInv x p (x' / D) (s + p) := by
  obtain ⟨h1, h2, h3, h4⟩ := h
  subst hD
  obtain ⟨n, rfl⟩ := Int.eq_ofNat_of_zero_le h1
  have e : ((n : Int) / ((2 ^ p : Nat) : Int)) = ((n / 2 ^ p : Nat) : Int) := by simp
  rw [e] at h0 ⊢
  have hn : n / 2 ^ p ≠ 0 := by
    intro h; rw [h] at h0; simp at h0
  have hge : 2 ^ p ≤ n := by
    rcases Nat.lt_or_ge n (2 ^ p) with h5 | h5
    · exact absurd (Nat.div_eq_of_lt h5) hn
    · exact h5
  rw [Int.toNat_natCast] at h2 h4
  refine ⟨Int.natCast_nonneg _, ?_, by omega, ?_⟩
  · rw [Int.toNat_natCast, Nat.div_lt_iff_lt_mul (Nat.two_pow_pos p), ← Nat.pow_add]; exact h2
  · rw [Int.toNat_natCast]
    have := bl_div hge
    omega
theorem LenInv.no {x x' s : Int} {p : Nat} (h : LenInv x (p + p) x' s) (D : Int) (hD : D = ((2 ^ p : Nat) : Int)) (h0 : (x' / D != 0) = false) : LenInv x p x' s := by
  obtain ⟨h1, h2, h3, h4⟩ := h
  subst hD
  refine ⟨h1, ?_, h3, h4⟩
  obtain ⟨n, rfl⟩ := Int.eq_ofNat_of_zero_le h1
  have e : ((n : Int) / ((2 ^ p : Nat) : Int)) = ((n / 2 ^ p : Nat) : Int) := by simp
  rw [e] at h0
  have h5 : n / 2 ^ p = 0 := by
    have : ((n / 2 ^ p : Nat) : Int) = 0 := by simpa using h0
    omega
  rw [Int.toNat_natCast]
  exact (Nat.div_eq_zero_iff.1 h5).resolve_left (by have := Nat.two_pow_pos p; omega)
theorem LenInv.done {x x' s : Int} (hx : Lm x) (h : LenInv x 1 x' s) : wrap64 (s + wrap64 x') = bl x.toNat := by
  have hs := h.s64 hx
  obtain ⟨h1, h2, h3, h4⟩ := h
  have : x' = 0 ∨ x' = 1 := by omega
  rcases this with rfl | rfl
  · have : bl (0 : Int).toNat = 0 := bl_zero
    rw [this] at h4
    unfold wrap64; omega
  · have : bl (1 : Int).toNat = 1 := bl_one
    rw [this] at h4
    unfold wrap64; omega

set_option maxHeartbeats 1000000 in
theorem limbLen_any (x : Int) (w : World) (hx : Lm x) :
    Calls Tryz.prog 154 #[.int .u64 x] w fun e w' => e = .returned (.int .i64 (bl x.toNat)) ∧ w = w' := by
  go_enter Tryz.func154, Tryz.ntmps154
  go_wp2
  go_loop [0, 3, 4, 5, 6] (fun xv nv _ _ i => ∃ (k : Nat) (x' s : Int), k ≤ 6 ∧ i = .int .i64 k ∧ xv = .int .u64 x' ∧ nv = .int .i64 s ∧ LenInv x (pw k) x' s) (fun _ _ _ _ i => 6 - (intOf i).toNat)
  case atStart => exact ⟨0, x, 0, by omega, rfl, rfl, rfl, hx.1, by unfold Lm at hx; rw [Wd_eq] at hx; show _ < 18446744073709551616; omega, by omega, by simp⟩
  case round =>
    obtain ⟨k, x', s, hk, rfl, rfl, rfl, hinv⟩ := hrel
    have hs := hinv.s64 hx
    by_cases h6 : k < 6
    · rcases (show k = 0 ∨ k = 1 ∨ k = 2 ∨ k = 3 ∨ k = 4 ∨ k = 5 by omega) with rfl | rfl | rfl | rfl | rfl | rfl
      all_goals go_wp2
      all_goals go_round
      all_goals first
        | (simp [intOf]; done)
        | exact ⟨1, _, _, by omega, rfl, rfl, rfl, LenInv.yes (p := 32) hinv _ (by rfl) (by assumption)⟩
        | exact ⟨1, _, _, by omega, rfl, rfl, rfl, LenInv.no (p := 32) hinv _ (by rfl) (by assumption)⟩
        | exact ⟨2, _, _, by omega, rfl, rfl, rfl, LenInv.yes (p := 16) hinv _ (by rfl) (by assumption)⟩
        | exact ⟨2, _, _, by omega, rfl, rfl, rfl, LenInv.no (p := 16) hinv _ (by rfl) (by assumption)⟩
        | exact ⟨3, _, _, by omega, rfl, rfl, rfl, LenInv.yes (p := 8) hinv _ (by rfl) (by assumption)⟩
        | exact ⟨3, _, _, by omega, rfl, rfl, rfl, LenInv.no (p := 8) hinv _ (by rfl) (by assumption)⟩
        | exact ⟨4, _, _, by omega, rfl, rfl, rfl, LenInv.yes (p := 4) hinv _ (by rfl) (by assumption)⟩
        | exact ⟨4, _, _, by omega, rfl, rfl, rfl, LenInv.no (p := 4) hinv _ (by rfl) (by assumption)⟩
        | exact ⟨5, _, _, by omega, rfl, rfl, rfl, LenInv.yes (p := 2) hinv _ (by rfl) (by assumption)⟩
        | exact ⟨5, _, _, by omega, rfl, rfl, rfl, LenInv.no (p := 2) hinv _ (by rfl) (by assumption)⟩
        | exact ⟨6, _, _, by omega, rfl, rfl, rfl, LenInv.yes (p := 1) hinv _ (by rfl) (by assumption)⟩
        | exact ⟨6, _, _, by omega, rfl, rfl, rfl, LenInv.no (p := 1) hinv _ (by rfl) (by assumption)⟩
    · obtain rfl : k = 6 := by omega
      go_wp2
      go_ret
      exact ⟨ret_i64 (hinv.done hx), rfl⟩
end
end Go.Proofs.YtbpamkpclofnbaaGreat
namespace Go.Proofs.YtbpamkpclofnbaaGreat
section
set_option maxRecDepth 100000
open Go.RowKit
set_option linter.unusedVariables false

def shU (s : Nat) (x y : Int) : Int := bits .or .u64 (IntKind.u64.wrap (x * 2 ^ s)) y
theorem Wd_split {s : Nat} (hs : s ≤ 64) : Wd = 2 ^ (64 - s) * 2 ^ s := by rw [← Nat.pow_add, show 64 - s + s = 64 by omega]; exact Wd_pow
theorem shU_eq {s : Nat} (hs : s ≤ 63) (x y : Nat) (hx : x < Wd) (hy : y < 2 ^ s) : shU s x y = ((x * 2 ^ s % Wd + y : Nat) : Int) := by
  unfold shU
  have h1 : IntKind.u64.wrap ((x : Int) * 2 ^ s) = ((x * 2 ^ s % Wd : Nat) : Int) := by
    rw [wrap_u64, Int.natCast_emod, Int.natCast_mul, Int.natCast_pow, Wd_eq]; rfl
  have h2 : (x * 2 ^ s % Wd) % 2 ^ s = 0 := by
    rw [Wd_split (s := s) (by omega), Nat.mod_mul_left_mod, Nat.mul_mod_left]
  have h3 : 2 ^ s < 2 ^ 64 := Nat.pow_lt_pow_right (by omega) (by omega)
  have h4 : x * 2 ^ s % Wd < 2 ^ 64 := by rw [← Wd_pow]; exact Nat.mod_lt _ Wd0
  rw [h1, bits_join .u64 64 (by decide) (fun n h0 h1 => by rw [wrap_u64]; have : n < 18446744073709551616 := by simpa using h1
                                                           omega) s _ _ (by omega) ?_ ?_ (by omega) ?_ ?_]
  · push_cast; rfl
  · exact_mod_cast h2
  · exact_mod_cast h4
  · exact_mod_cast hy
  · exact_mod_cast (Nat.lt_trans hy h3)
theorem sh_div {s x : Nat} (hs : s ≤ 63) : x * 2 ^ s / Wd = x / 2 ^ (64 - s) := by
  rw [Wd_split (s := s) (by omega), Nat.mul_div_mul_right _ _ (Nat.two_pow_pos s)]

def ShInv (W la : List Int) (s k : Nat) (Wk : List Int) (y : Int) : Prop :=
  Wk.length = W.length ∧ Lim Wd Wk ∧ 0 ≤ y ∧ y.toNat < 2 ^ s ∧ vl Wd (Wk.take k) + Wd ^ k * y.toNat = vl Wd (la.take k) * 2 ^ s
theorem ShInv.zero {W la : List Int} {s : Nat} (hW : Lim Wd W) : ShInv W la s 0 W 0 := ⟨rfl, hW, by omega, Nat.two_pow_pos s, by simp [vl]⟩
theorem take_set_succ {l : List Int} {k : Nat} (hk : k < l.length) (x : Int) : vl Wd ((l.set k x).take (k + 1)) = vl Wd (l.take k) + Wd ^ k * x.toNat := by
  rw [vl_take_succ Wd _ k (by simpa using hk), List.getElem_set_self, List.take_set_of_le (Nat.le_refl k)]
theorem ShInv.step {W la Wk : List Int} {s k : Nat} {y : Int} (hs : s ≤ 63) (hla : Lim Wd la) (h : ShInv W la s k Wk y) (hk : k < Wk.length) (hka : k < la.length) :
    ShInv W la s (k + 1) (Wk.set k (shU s la[k] y)) (la[k] / 2 ^ (64 - s)) := by
  obtain ⟨h1, h2, h3, h4, h5⟩ := h
  have hx := hla.get hka
  have hlk : vl Wd (la.take (k + 1)) = vl Wd (la.take k) + Wd ^ k * la[k].toNat := vl_take_succ Wd la k hka
  generalize la[k] = x at *
  obtain ⟨x, rfl⟩ := Int.eq_ofNat_of_zero_le hx.1
  obtain ⟨y, rfl⟩ := Int.eq_ofNat_of_zero_le h3
  rw [Int.toNat_natCast] at h4 h5 hlk
  have hxW : x < Wd := by omega
  have ed : ((x : Int) / 2 ^ (64 - s)) = ((x / 2 ^ (64 - s) : Nat) : Int) := by rw [Int.natCast_ediv, Int.natCast_pow]; rfl
  rw [shU_eq hs x y hxW h4, ed]
  have hy63 : y < 2 ^ s := h4
  have hnew : x * 2 ^ s % Wd + y < Wd := by
    have h2 : (x * 2 ^ s % Wd) % 2 ^ s = 0 := by
      rw [Wd_split (s := s) (by omega), Nat.mod_mul_left_mod, Nat.mul_mod_left]
    have h6 : x * 2 ^ s % Wd < Wd := Nat.mod_lt _ Wd0
    have h7 : Wd % 2 ^ s = 0 := by rw [Wd_split (s := s) (by omega), Nat.mul_mod_left]
    obtain ⟨a, ha⟩ := Nat.dvd_of_mod_eq_zero h2
    obtain ⟨b, hb⟩ := Nat.dvd_of_mod_eq_zero h7
    rw [ha, hb] at h6
    rw [ha, hb]
    have : a < b := Nat.lt_of_mul_lt_mul_left h6
    have h8 : 2 ^ s * (a + 1) ≤ 2 ^ s * b := Nat.mul_le_mul_left _ this
    rw [Nat.mul_add] at h8
    omega
  refine ⟨by simpa using h1, h2.set k ⟨Int.natCast_nonneg _, Int.ofNat_lt.2 hnew⟩, Int.natCast_nonneg _, ?_, ?_⟩
  · rw [Int.toNat_natCast, Nat.div_lt_iff_lt_mul (Nat.two_pow_pos _), ← Nat.pow_add, show s + (64 - s) = 64 by omega, ← Wd_pow]; exact hxW
  · rw [take_set_succ hk, Int.toNat_natCast, Int.toNat_natCast, hlk, Nat.add_mul, ← h5, Nat.pow_succ, Nat.mul_assoc, ← sh_div hs]
    have e1 := Nat.mod_add_div (x * 2 ^ s) Wd
    have e2 : Wd ^ k * (x * 2 ^ s % Wd + y) + Wd ^ k * (Wd * (x * 2 ^ s / Wd)) = Wd ^ k * y + Wd ^ k * x * 2 ^ s := by
      rw [← Nat.mul_add, Nat.mul_assoc, ← Nat.mul_add]; congr 1; omega
    omega
theorem ShInv.last {W la Wk : List Int} {s m : Nat} {y : Int} (hs : s ≤ 63) (h : ShInv W la s m Wk y) (hm : la.length = m) (hl : W.length = m + 1) (hk : m < Wk.length) :
    (Wk.set m y).length = W.length ∧ Lim Wd (Wk.set m y) ∧ vl Wd (Wk.set m y) = vl Wd la * 2 ^ s := by
  obtain ⟨h1, h2, h3, h4, h5⟩ := h
  have h3' : 2 ^ s < 2 ^ 64 := Nat.pow_lt_pow_right (by omega) (by omega)
  rw [← Wd_pow] at h3'
  refine ⟨by simpa using h1, h2.set _ ⟨h3, by omega⟩, ?_⟩
  have := take_set_succ hk y
  rw [List.take_of_length_le (by simp; omega)] at this
  rw [this, h5, List.take_of_length_le (by omega)]

def ShPost (w : World) (g : Nat) (P W S : List Int) (V : Nat) (e : Ending) (w' : World) : Prop :=
  ∃ W', e = .returned (.tuple #[]) ∧ W'.length = W.length ∧ Lim Wd W' ∧ vl Wd W' = V ∧ Bk w' g (P ++ (W' ++ S)) ∧ w.grownBy w' (some g)
def ShRel (w : World) (g : Nat) (P W S la : List Int) (s : Nat) (cy : Value) (k : Nat) (wr : World) : Prop :=
  ∃ Wk y, cy = .int .u64 y ∧ ShInv W la s k Wk y ∧ Bk wr g (P ++ (Wk ++ S)) ∧ w.grownBy wr (some g)

set_option maxHeartbeats 1000000 in
theorem shiftUp_any (g off n c : Nat) (A : Option Addr) (m ca : Nat) (P W S la : List Int) (s : Nat) (w : World) (B : Nat) (hP : P.length = off) (hWn : W.length = n) (hW : Lim Wd W) (hbig : n ≤ 17592186044416)
    (hbk : Bk w g (P ++ (W ++ S))) (h : Rd w B A m ca la) (hB : B ≤ g) (hmn : m + 1 = n) (hs : s ≤ 63) :
    Calls Tryz.prog 177 #[.slice (some ⟨g, off, none⟩) n c, .slice A m ca, .int .i64 s] w (ShPost w g P W S (vl Wd la * 2 ^ s)) := by
  have HP := Lib.hid hP; clear hP
  have HW := Lib.hid hWn; clear hWn
  have H := Lib.hid h.len
  have HM := Lib.hid hmn
  have hmn' : m < n := by omega
  clear hmn
  have hcap := h.cap
  have hbig2 := h.big
  go_enter Tryz.func177, Tryz.ntmps177
  go_wp2
  go_loopw [6, 7, 10] (fun cy _ i wr => ∃ k : Nat, k ≤ m ∧ i = .int .i64 k ∧ ShRel w g P W S la s cy k wr) (fun _ _ i _ => m - (intOf i).toNat)
  case atStart => exact ⟨0, Nat.zero_le _, rfl, W, 0, rfl, ShInv.zero hW, hbk, ⟨rfl, rfl, rfl, Nat.le_refl _, fun _ _ _ => rfl⟩⟩
  case round =>
    obtain ⟨k, hk, rfl, Wk, cy, rfl, hinv, hbkr, hgr⟩ := hrel
    by_cases hkm : k < m
    · obtain ⟨b, of, rfl, hb, hc⟩ := h.at_ (by omega)
      have hkl : k < la.length := by have := H.out; omega
      have hkW : k < Wk.length := by have := HW.out; have := hinv.1; omega
      have hc1 := hbkr.wcell HP.out hkW
      have hf1 := hbkr.frozen (off + k)
      have hc2 : wr.cell? ⟨b, of + k, none⟩ = _ := (World.cell?_of_block (hgr.block b (by have := hbk.lt; omega) (fun e => by injection e with e; omega))).trans (hc k hkl)
      have hc3 : ∀ v, (wr.setCell ⟨g, off + k, none⟩ v).cell? ⟨b, of + k, none⟩ = _ := fun v => (World.cell?_setCell_other wr _ _ v (fun e => by injection e with e; omega)).trans hc2
      have hst := hinv.step hs h.lim hkW hkl
      have hbk' := (hbkr.wset HP.out hkW (shU s la[k] cy))
      clear hc
      generalize hxe : la[k] = x at hc2 hc3 hst hbk'
      have Hx := Lib.hid hxe; clear hxe
      generalize hze : Wk[k] = z at hc1
      have Hz := Lib.hid hze; clear hze
      have hkn : (k : Int) < n := by omega
      have R : ShRel w g P W S la s (.int .u64 (x / 2 ^ (64 - s))) (k + 1) (wr.setCell ⟨g, off + k, none⟩ (.int .u64 (shU s x cy))) := ⟨_, _, rfl, hst, hbk', grownBy_trans hgr (grownBy_set _ _ _ _)⟩
      have hc4 := hc3 (.int .u64 (shU s x cy))
      unfold shU at hc4
      clear hst hbk' hinv hbkr hc3
      go_wp2
      go_roundw
      case rel => exact ⟨k + 1, by omega, by go_num, R⟩
      case measure => simp [intOf]; omega
    · obtain rfl : m = k := by omega
      clear hk hkm
      have hkW : m < Wk.length := by have := HW.out; have := hinv.1; omega
      have hc1 := hbkr.wcell HP.out hkW
      have hf1 := hbkr.frozen (off + m)
      go_wp2
      go_end0
      obtain ⟨r1, r2, r3⟩ := hinv.last hs H.out (by have := HW.out; have := HM.out; omega) hkW
      exact ⟨_, rfl, r1, r2, r3, hbkr.wset HP.out hkW cy, grownBy_trans hgr (grownBy_set _ _ _ _)⟩

def shD (s : Nat) (x y : Int) : Int := bits .or .u64 (x / 2 ^ s) y
def shA (s : Nat) (x : Int) : Int := IntKind.u64.wrap (x * 2 ^ (64 - s))
theorem shA_eq {s : Nat} (hs : s ≤ 63) (x : Nat) : shA s x = ((x % 2 ^ s * 2 ^ (64 - s) : Nat) : Int) := by
  unfold shA
  have h1 : IntKind.u64.wrap ((x : Int) * 2 ^ (64 - s)) = ((x * 2 ^ (64 - s) % Wd : Nat) : Int) := by
    rw [wrap_u64, Int.natCast_emod, Int.natCast_mul, Int.natCast_pow, Wd_eq]; rfl
  rw [h1, Wd_split (s := s) (by omega), Nat.mul_comm (2 ^ (64 - s)) (2 ^ s), Nat.mul_mod_mul_right]
theorem shD_eq {s : Nat} (hs : s ≤ 63) (x r : Nat) (hx : x < Wd) (hr : r < 2 ^ s) : shD s x ((r * 2 ^ (64 - s) : Nat) : Int) = ((x / 2 ^ s + r * 2 ^ (64 - s) : Nat) : Int) ∧ x / 2 ^ s + r * 2 ^ (64 - s) < Wd := by
  have e : ((x : Int) / 2 ^ s) = ((x / 2 ^ s : Nat) : Int) := by rw [Int.natCast_ediv, Int.natCast_pow]; rfl
  have h1 : x / 2 ^ s < 2 ^ (64 - s) := by rw [Nat.div_lt_iff_lt_mul (Nat.two_pow_pos _), ← Wd_split (by omega)]; exact hx
  have h2 : (r + 1) * 2 ^ (64 - s) ≤ 2 ^ s * 2 ^ (64 - s) := Nat.mul_le_mul_right _ hr
  rw [Nat.mul_comm (2 ^ s), ← Wd_split (by omega), Nat.add_mul, Nat.one_mul] at h2
  have h3 : x / 2 ^ s + r * 2 ^ (64 - s) < Wd := by omega
  refine ⟨?_, h3⟩
  unfold shD
  have k1 : x / 2 ^ s < Wd := Nat.lt_of_le_of_lt (Nat.le_add_right _ _) h3
  have k2 : r * 2 ^ (64 - s) < Wd := Nat.lt_of_le_of_lt (Nat.le_add_left _ _) h3
  rw [Wd_eq] at k1 k2
  rw [e, u64_or_nat _ _ k1 k2, Nat.or_comm, nat_join (64 - s) _ _ (Nat.mul_mod_left _ _) h1, Nat.add_comm]

def SdInv (W la : List Int) (s j : Nat) (Wk : List Int) (y : Int) : Prop :=
  Wk.length = W.length ∧ Lim Wd Wk ∧ vl Wd (Wk.drop j) = vl Wd (la.drop j) / 2 ^ s ∧ y = ((vl Wd (la.drop j) % 2 ^ s * 2 ^ (64 - s) : Nat) : Int)
theorem SdInv.step {W la Wk : List Int} {s j : Nat} {y : Int} (hs : s ≤ 63) (hla : Lim Wd la) (h : SdInv W la s (j + 1) Wk y) (hk : j < Wk.length) (hka : j < la.length) :
    SdInv W la s j (Wk.set j (shD s la[j] y)) (shA s la[j]) := by
  obtain ⟨h1, h2, h3, rfl⟩ := h
  have hx := hla.get hka
  have hq := vl_drop_step Wd la j hka
  generalize la[j] = x at *
  generalize vl Wd (la.drop (j + 1)) = q at *
  obtain ⟨x, rfl⟩ := Int.eq_ofNat_of_zero_le hx.1
  rw [Int.toNat_natCast] at hq
  have hxW : x < Wd := by omega
  have hr : q % 2 ^ s < 2 ^ s := Nat.mod_lt _ (Nat.two_pow_pos s)
  have hd := shD_eq hs x (q % 2 ^ s) hxW hr
  rw [hd.1, shA_eq hs]
  refine ⟨by simpa using h1, h2.set j ⟨Int.natCast_nonneg _, Int.ofNat_lt.2 hd.2⟩, ?_, ?_⟩
  · rw [vl_drop_step Wd _ j (by simpa using hk), List.getElem_set_self, Int.toNat_natCast, List.drop_set_of_lt (by omega), h3, hq]
    have hW := Wd_split (s := s) (by omega)
    have e1 : x + Wd * q = x + 2 ^ s * (2 ^ (64 - s) * q) := by rw [hW, Nat.mul_comm (2 ^ (64 - s)) (2 ^ s), Nat.mul_assoc]
    rw [e1, Nat.add_mul_div_left _ _ (Nat.two_pow_pos s)]
    have e2 := Nat.mod_add_div q (2 ^ s)
    have e3 : 2 ^ (64 - s) * q = q % 2 ^ s * 2 ^ (64 - s) + Wd * (q / 2 ^ s) := by
      have e4 : 2 ^ (64 - s) * (q % 2 ^ s + 2 ^ s * (q / 2 ^ s)) = q % 2 ^ s * 2 ^ (64 - s) + Wd * (q / 2 ^ s) := by
        rw [Nat.mul_add, hW, Nat.mul_comm (2 ^ (64 - s)) (q % 2 ^ s), Nat.mul_assoc]
      rw [e2] at e4
      exact e4
    omega
  · rw [hq]
    have hW := Wd_split (s := s) (by omega)
    have e1 : x + Wd * q = x + 2 ^ s * (2 ^ (64 - s) * q) := by rw [hW, Nat.mul_comm (2 ^ (64 - s)) (2 ^ s), Nat.mul_assoc]
    rw [e1, Nat.add_mul_mod_self_left]

def SdRel (w : World) (g : Nat) (P W S la : List Int) (s : Nat) (cy : Value) (j : Nat) (wr : World) : Prop :=
  ∃ Wk y, cy = .int .u64 y ∧ SdInv W la s j Wk y ∧ Bk wr g (P ++ (Wk ++ S)) ∧ w.grownBy wr (some g)

set_option maxHeartbeats 1000000 in
theorem shiftDown_any (g off n c : Nat) (A : Option Addr) (ca : Nat) (P W S la : List Int) (s : Nat) (w : World) (B : Nat) (hP : P.length = off) (hWn : W.length = n) (hW : Lim Wd W) (hbig : n ≤ 17592186044416)
    (hbk : Bk w g (P ++ (W ++ S))) (h : Rd w B A n ca la) (hB : B ≤ g) (hs : s ≤ 63) :
    Calls Tryz.prog 179 #[.slice (some ⟨g, off, none⟩) n c, .slice A n ca, .int .i64 s] w (ShPost w g P W S (vl Wd la / 2 ^ s)) := by
  have HP := Lib.hid hP; clear hP
  have HW := Lib.hid hWn; clear hWn
  have H := Lib.hid h.len
  have hcap := h.cap
  have hbig2 := h.big
  go_enter Tryz.func179, Tryz.ntmps179
  go_wp2
  go_loopw [6, 7, 8, 11] (fun cy _ _ i wr => ∃ k : Nat, k ≤ n ∧ i = .int .i64 k ∧ SdRel w g P W S la s cy (n - k) wr) (fun _ _ _ i _ => n - (intOf i).toNat)
  case atStart => exact ⟨0, Nat.zero_le _, rfl, W, 0, rfl, ⟨rfl, hW, by rw [List.drop_eq_nil_of_le (by have := HW.out; omega), List.drop_eq_nil_of_le (by have := H.out; omega)]; simp [vl], by rw [List.drop_eq_nil_of_le (by have := H.out; omega)]; simp [vl]⟩, hbk, ⟨rfl, rfl, rfl, Nat.le_refl _, fun _ _ _ => rfl⟩⟩
  case round =>
    obtain ⟨k, hk, rfl, Wk, cy, rfl, hinv, hbkr, hgr⟩ := hrel
    by_cases hkm : k < n
    · obtain ⟨b, of, rfl, hb, hc⟩ := h.at_ (by omega)
      obtain ⟨j, hj⟩ : ∃ j, n = j + 1 + k := ⟨n - 1 - k, by omega⟩
      have hjk : n - k = j + 1 := by omega
      have hjk2 : n - (k + 1) = j := by omega
      rw [hjk] at hinv
      have hkl : j < la.length := by have := H.out; omega
      have hkW : j < Wk.length := by have := HW.out; have := hinv.1; omega
      have hc1 := hbkr.wcell HP.out hkW
      have hf1 := hbkr.frozen (off + j)
      have hc2 : wr.cell? ⟨b, of + j, none⟩ = _ := (World.cell?_of_block (hgr.block b (by have := hbk.lt; omega) (fun e => by injection e with e; omega))).trans (hc j hkl)
      have hc3 : ∀ v, (wr.setCell ⟨g, off + j, none⟩ v).cell? ⟨b, of + j, none⟩ = _ := fun v => (World.cell?_setCell_other wr _ _ v (fun e => by injection e with e; omega)).trans hc2
      have hst := hinv.step hs h.lim hkW hkl
      have hbk' := (hbkr.wset HP.out hkW (shD s la[j] cy))
      clear hc
      generalize hxe : la[j] = x at hc2 hc3 hst hbk'
      have Hx := Lib.hid hxe; clear hxe
      generalize hze : Wk[j] = z at hc1
      have Hz := Lib.hid hze; clear hze
      have hjn : (j : Int) < n := by omega
      have e1 : (n : Int) - 1 - k = j := by omega
      have R : SdRel w g P W S la s (.int .u64 (shA s x)) (n - (k + 1)) (wr.setCell ⟨g, off + j, none⟩ (.int .u64 (shD s x cy))) := by rw [hjk2]; exact ⟨_, _, rfl, hst, hbk', grownBy_trans hgr (grownBy_set _ _ _ _)⟩
      have hc4 := hc3 (.int .u64 (shD s x cy))
      unfold shD at hc4
      clear hst hbk' hinv hbkr hc3 hj hjk hjk2
      go_wp2
      go_roundw
      case rel => exact ⟨k + 1, by omega, by go_num, R⟩
      case measure => simp [intOf]; omega
    · obtain rfl : n = k := by omega
      clear hk hkm
      go_wp2
      go_end0
      obtain ⟨r1, r2, r3, r4⟩ := hinv
      rw [Nat.sub_self] at r3
      exact ⟨_, rfl, r1, r2, by simpa using r3, hbkr, hgr⟩
end
end Go.Proofs.YtbpamkpclofnbaaGreat
namespace Go.Proofs.YtbpamkpclofnbaaGreat
open Go.RowKit
/-- What does not hang on new memory: p of v is q of w. -/
class Mv (p : Prop) (v w : World) (q : outParam Prop) : Prop where
  mv : p → Below v.heap.size v w → q
theorem mv2 {p0 q0 p1 q1 : Prop} {v w : World} [Mv p0 v w q0] [Mv p1 v w q1] (hb : Below v.heap.size v w) (f0 : p0) (f1 : p1) : q0 ∧ q1 := ⟨Mv.mv f0 hb, Mv.mv f1 hb⟩
theorem mv3 {p0 q0 p1 q1 p2 q2 : Prop} {v w : World} [Mv p0 v w q0] [Mv p1 v w q1] [Mv p2 v w q2] (hb : Below v.heap.size v w) (f0 : p0) (f1 : p1) (f2 : p2) : q0 ∧ q1 ∧ q2 := ⟨Mv.mv f0 hb, Mv.mv f1 hb, Mv.mv f2 hb⟩
theorem mv4 {p0 q0 p1 q1 p2 q2 p3 q3 : Prop} {v w : World} [Mv p0 v w q0] [Mv p1 v w q1] [Mv p2 v w q2] [Mv p3 v w q3] (hb : Below v.heap.size v w) (f0 : p0) (f1 : p1) (f2 : p2) (f3 : p3) : q0 ∧ q1 ∧ q2 ∧ q3 := ⟨Mv.mv f0 hb, Mv.mv f1 hb, Mv.mv f2 hb, Mv.mv f3 hb⟩
theorem mv5 {p0 q0 p1 q1 p2 q2 p3 q3 p4 q4 : Prop} {v w : World} [Mv p0 v w q0] [Mv p1 v w q1] [Mv p2 v w q2] [Mv p3 v w q3] [Mv p4 v w q4] (hb : Below v.heap.size v w) (f0 : p0) (f1 : p1) (f2 : p2) (f3 : p3) (f4 : p4) : q0 ∧ q1 ∧ q2 ∧ q3 ∧ q4 := ⟨Mv.mv f0 hb, Mv.mv f1 hb, Mv.mv f2 hb, Mv.mv f3 hb, Mv.mv f4 hb⟩
theorem mv6 {p0 q0 p1 q1 p2 q2 p3 q3 p4 q4 p5 q5 : Prop} {v w : World} [Mv p0 v w q0] [Mv p1 v w q1] [Mv p2 v w q2] [Mv p3 v w q3] [Mv p4 v w q4] [Mv p5 v w q5] (hb : Below v.heap.size v w) (f0 : p0) (f1 : p1) (f2 : p2) (f3 : p3) (f4 : p4) (f5 : p5) : q0 ∧ q1 ∧ q2 ∧ q3 ∧ q4 ∧ q5 := ⟨Mv.mv f0 hb, Mv.mv f1 hb, Mv.mv f2 hb, Mv.mv f3 hb, Mv.mv f4 hb, Mv.mv f5 hb⟩
theorem mv7 {p0 q0 p1 q1 p2 q2 p3 q3 p4 q4 p5 q5 p6 q6 : Prop} {v w : World} [Mv p0 v w q0] [Mv p1 v w q1] [Mv p2 v w q2] [Mv p3 v w q3] [Mv p4 v w q4] [Mv p5 v w q5] [Mv p6 v w q6] (hb : Below v.heap.size v w) (f0 : p0) (f1 : p1) (f2 : p2) (f3 : p3) (f4 : p4) (f5 : p5) (f6 : p6) : q0 ∧ q1 ∧ q2 ∧ q3 ∧ q4 ∧ q5 ∧ q6 := ⟨Mv.mv f0 hb, Mv.mv f1 hb, Mv.mv f2 hb, Mv.mv f3 hb, Mv.mv f4 hb, Mv.mv f5 hb, Mv.mv f6 hb⟩
theorem mv8 {p0 q0 p1 q1 p2 q2 p3 q3 p4 q4 p5 q5 p6 q6 p7 q7 : Prop} {v w : World} [Mv p0 v w q0] [Mv p1 v w q1] [Mv p2 v w q2] [Mv p3 v w q3] [Mv p4 v w q4] [Mv p5 v w q5] [Mv p6 v w q6] [Mv p7 v w q7] (hb : Below v.heap.size v w) (f0 : p0) (f1 : p1) (f2 : p2) (f3 : p3) (f4 : p4) (f5 : p5) (f6 : p6) (f7 : p7) : q0 ∧ q1 ∧ q2 ∧ q3 ∧ q4 ∧ q5 ∧ q6 ∧ q7 := ⟨Mv.mv f0 hb, Mv.mv f1 hb, Mv.mv f2 hb, Mv.mv f3 hb, Mv.mv f4 hb, Mv.mv f5 hb, Mv.mv f6 hb, Mv.mv f7 hb⟩
theorem mv9 {p0 q0 p1 q1 p2 q2 p3 q3 p4 q4 p5 q5 p6 q6 p7 q7 p8 q8 : Prop} {v w : World} [Mv p0 v w q0] [Mv p1 v w q1] [Mv p2 v w q2] [Mv p3 v w q3] [Mv p4 v w q4] [Mv p5 v w q5] [Mv p6 v w q6] [Mv p7 v w q7] [Mv p8 v w q8] (hb : Below v.heap.size v w) (f0 : p0) (f1 : p1) (f2 : p2) (f3 : p3) (f4 : p4) (f5 : p5) (f6 : p6) (f7 : p7) (f8 : p8) : q0 ∧ q1 ∧ q2 ∧ q3 ∧ q4 ∧ q5 ∧ q6 ∧ q7 ∧ q8 := ⟨Mv.mv f0 hb, Mv.mv f1 hb, Mv.mv f2 hb, Mv.mv f3 hb, Mv.mv f4 hb, Mv.mv f5 hb, Mv.mv f6 hb, Mv.mv f7 hb, Mv.mv f8 hb⟩
end Go.Proofs.YtbpamkpclofnbaaGreat
