/-
  zed: DivMod.
-/
import Derived.Test.YtcoidcbbdibnaaaDoorZmul
namespace Go.Proofs.YtcoidcbbdibnaaaDoor
open Go.RowKit
set_option linter.unusedVariables false

theorem ed_unique {X Y q r : Int} (hY : Y ≠ 0) (h : X = Y * q + r) (h0 : 0 ≤ r) (h1 : r < (Y.natAbs : Int)) : X / Y = q ∧ X % Y = r := by
  rcases Int.lt_or_gt_of_ne hY with hn | hp
  · have := (Int.ediv_emod_unique (a := X) (b := -Y) (r := r) (q := -q) (by omega)).2 ⟨by rw [h, Int.neg_mul_neg]; omega, h0, by omega⟩
    rw [Int.ediv_neg, Int.emod_neg] at this
    exact ⟨by omega, this.2⟩
  · exact (Int.ediv_emod_unique hp).2 ⟨by rw [h]; omega, h0, by omega⟩
theorem zi_ne {b : Bool} {M : Nat} (h : 0 < M) : zi b M ≠ 0 := by unfold zi; split <;> omega
theorem dm_plain {b b2 : Bool} {N M : Nat} (hM : 0 < M) (h : b = false ∨ N % M = 0) : zi b N / zi b2 M = zi (!(b == b2)) (N / M) ∧ zi b N % zi b2 M = zi false (N % M) := by
  have h1 := Nat.mod_add_div N M
  have h2 := Nat.mod_lt N hM
  refine ed_unique (zi_ne hM) ?_ (by rw [zi_false]; omega) (by rw [zi_abs, zi_false]; omega)
  rw [zi_mul']
  rcases h with rfl | h
  · have e : (!b2 == !(false == b2)) = false := by cases b2 <;> rfl
    have e' : (!(b2 == !(false == b2))) = false := by cases b2 <;> rfl
    rw [e', zi_false, zi_false, zi_false]; omega
  · have e' : (!(b2 == !(b == b2))) = b := by cases b2 <;> cases b <;> rfl
    rw [e', h, zi_false]
    have : M * (N / M) = N := by omega
    rw [this]; simp
theorem dm_more {b2 : Bool} {N M : Nat} (hM : 0 < M) (h : 0 < N % M) : zi true N / zi b2 M = zi (!(true == b2)) (N / M + 1) ∧ zi true N % zi b2 M = zi false (M - N % M) := by
  have h1 := Nat.mod_add_div N M
  have h2 := Nat.mod_lt N hM
  refine ed_unique (zi_ne hM) ?_ (by rw [zi_false]; omega) (by rw [zi_abs, zi_false]; omega)
  rw [zi_mul']
  have e' : (!(b2 == !(true == b2))) = true := by cases b2 <;> rfl
  rw [e', zi_true, zi_true, zi_false, Nat.mul_add, Nat.mul_one]
  omega
def DqPost (w : World) (Q R : Int) (k : Nat) (e : Ending) (w' : World) : Prop :=
  ∃ A n c A2 n2 c2, e = .returned (.tuple #[.agg #[.bool (ngB Q), .slice A n c], .agg #[.bool (ngB R), .slice A2 n2 c2], .bool true]) ∧ Zn w' A n c Q k ∧ Zn w' A2 n2 c2 R k ∧ Below w.heap.size w w'
theorem rd_zero {w : World} {B n c N : Nat} {A : Option Addr} (h : Rd w B A n c (dg Wd N)) (h0 : N = 0) : n = 0 := by
  have := h.len; rw [h0, dg_zero] at this; simpa using this.symm
theorem rd_pos {w : World} {B n c N : Nat} {A : Option Addr} (h : Rd w B A n c (dg Wd N)) (h0 : 0 < N) : 0 < n := by
  rcases Nat.eq_zero_or_pos n with h1 | h1
  · have := h.len; rw [h1] at this; have := (dg_eq_nil Wd2).1 (List.eq_nil_of_length_eq_zero this); omega
  · exact h1
theorem Sm.le1 {N k : Nat} (h : Sm N (k - 1)) (hk : 1 ≤ k) : Sm (N + 1) k := by
  unfold Sm at *
  obtain ⟨q, rfl⟩ : ∃ q, k = q + 1 := ⟨k - 1, by omega⟩
  rw [Nat.add_sub_cancel] at h
  have := Nat.mul_le_mul_left (Wd ^ q) Wd2
  have h0 : 0 < Wd ^ q := Nat.pow_pos Wd0
  rw [Nat.pow_succ]
  generalize Wd ^ q * Wd = r at *
  generalize Wd ^ q = s at *
  omega
theorem Sm.mod {N M k : Nat} (h : Sm N k) : Sm (N % M) k := h.le (Nat.mod_le _ _)

end Go.Proofs.YtcoidcbbdibnaaaDoor
