/-
  Numbers of at most so many limbs.
-/
import Derived.Test.YtcoidcbbdibnaaaDoorLaid
namespace Go.Proofs.YtcoidcbbdibnaaaDoor
open Go.RowKit
set_option linter.unusedVariables false

/-- A number of at most k limbs. -/
def Sm (N k : Nat) : Prop := N < Wd ^ k
theorem Sm.of {w : World} {B n c k : Nat} {A : Option Addr} {l : List Int} (h : Rd w B A n c l) (hn : n ≤ k) : Sm (vl Wd l) k := by
  have := vl_lt h.lim
  rw [h.len] at this
  exact Nat.lt_of_lt_of_le this (Nat.pow_le_pow_right Wd0 hn)
theorem Sm.add {N M k : Nat} (h : Sm N k) (h2 : Sm M k) : Sm (N + M) (k + 1) := by
  unfold Sm at *
  rw [Nat.pow_succ]
  have : Wd ^ k * 2 ≤ Wd ^ k * Wd := Nat.mul_le_mul_left _ Wd2
  generalize Wd ^ k * Wd = r at *
  generalize Wd ^ k = q at *
  omega
theorem Sm.mul {N M j k : Nat} (h : Sm N j) (h2 : Sm M k) : Sm (N * M) (j + k) := by
  unfold Sm at *
  rw [Nat.pow_add]
  exact Nat.mul_lt_mul'' h h2
theorem Sm.mono {N j k : Nat} (h : Sm N j) (hk : j ≤ k) : Sm N k := Nat.lt_of_lt_of_le h (Nat.pow_le_pow_right Wd0 hk)
theorem Sm.le {N M k : Nat} (h : Sm N k) (hM : M ≤ N) : Sm M k := Nat.lt_of_le_of_lt hM h
theorem Rd.small {w : World} {B n c k N : Nat} {A : Option Addr} (h : Rd w B A n c (dg Wd N)) (hN : Sm N k) : n ≤ k := by
  rw [← h.len]
  exact dg_len_le Wd2 hN
theorem Quiet.bel {w w' : World} (h : Quiet w w') : Below w.heap.size w w' := h.below
theorem sameB_self (l : List Int) : sameB l l = true := by simp [sameB]
theorem sameB_dg {N M : Nat} (h : N = M) : sameB (dg Wd N) (dg Wd M) = true := by rw [h]; exact sameB_self _

end Go.Proofs.YtcoidcbbdibnaaaDoor
