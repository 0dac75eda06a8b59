/-
  the laws of rows: masks.
-/
import Derived.Test.YthlpdljkclngdaaKshwn
import Derived.Laws.BitsAllLaws
namespace Go.Proofs.Ythlpdljkclngdaa
open Go.RowKit
set_option linter.unusedVariables false

theorem i64_and31 (n : Int) : bits .and .i64 n 31 = n % 32 := by
  have h127 : (BitVec.ofInt 64 31).toNat = 2 ^ 5 - 1 := by decide
  have key : (BitVec.ofInt 64 n &&& BitVec.ofInt 64 31).toNat = (n % ((2 ^ 64 : Nat) : Int)).toNat % 2 ^ 5 := by
    rw [BitVec.toNat_and, BitVec.toNat_ofInt, h127, Nat.and_two_pow_sub_one_eq_mod]
  show IntKind.i64.wrap ((BitVec.ofInt 64 n &&& BitVec.ofInt 64 31).toNat : Nat) = n % 32
  rw [key, IntKind.wrap_i64]
  omega
theorem masked31 (n : Int) (d : Int) (hd : 0 ≤ d ∧ d ≤ 1000) : ∃ s : Int, bits .and .i64 n 31 = s ∧ ∃ Q : Nat, IntKind.i64.wrap (d + s) = (Q : Int) ∧ d ≤ Q ∧ Q ≤ d + 31 ∧ s = Q - d := by
  refine ⟨n % 32, i64_and31 n, (d + n % 32).toNat, ?_, ?_, ?_, ?_⟩ <;> first | (rw [wrapK (by omega) (by omega)]; omega) | omega
theorem i64_and63 (n : Int) : bits .and .i64 n 63 = n % 64 := by
  have h127 : (BitVec.ofInt 64 63).toNat = 2 ^ 6 - 1 := by decide
  have key : (BitVec.ofInt 64 n &&& BitVec.ofInt 64 63).toNat = (n % ((2 ^ 64 : Nat) : Int)).toNat % 2 ^ 6 := by
    rw [BitVec.toNat_and, BitVec.toNat_ofInt, h127, Nat.and_two_pow_sub_one_eq_mod]
  show IntKind.i64.wrap ((BitVec.ofInt 64 n &&& BitVec.ofInt 64 63).toNat : Nat) = n % 64
  rw [key, IntKind.wrap_i64]
  omega
theorem masked63 (n : Int) (d : Int) (hd : 0 ≤ d ∧ d ≤ 1000) : ∃ s : Int, bits .and .i64 n 63 = s ∧ ∃ Q : Nat, IntKind.i64.wrap (d + s) = (Q : Int) ∧ d ≤ Q ∧ Q ≤ d + 63 ∧ s = Q - d := by
  refine ⟨n % 64, i64_and63 n, (d + n % 64).toNat, ?_, ?_, ?_, ?_⟩ <;> first | (rw [wrapK (by omega) (by omega)]; omega) | omega
theorem i64_and127 (n : Int) : bits .and .i64 n 127 = n % 128 := by
  have h127 : (BitVec.ofInt 64 127).toNat = 2 ^ 7 - 1 := by decide
  have key : (BitVec.ofInt 64 n &&& BitVec.ofInt 64 127).toNat = (n % ((2 ^ 64 : Nat) : Int)).toNat % 2 ^ 7 := by
    rw [BitVec.toNat_and, BitVec.toNat_ofInt, h127, Nat.and_two_pow_sub_one_eq_mod]
  show IntKind.i64.wrap ((BitVec.ofInt 64 n &&& BitVec.ofInt 64 127).toNat : Nat) = n % 128
  rw [key, IntKind.wrap_i64]
  omega
theorem masked127 (n : Int) (d : Int) (hd : 0 ≤ d ∧ d ≤ 1000) : ∃ s : Int, bits .and .i64 n 127 = s ∧ ∃ Q : Nat, IntKind.i64.wrap (d + s) = (Q : Int) ∧ d ≤ Q ∧ Q ≤ d + 127 ∧ s = Q - d := by
  refine ⟨n % 128, i64_and127 n, (d + n % 128).toNat, ?_, ?_, ?_, ?_⟩ <;> first | (rw [wrapK (by omega) (by omega)]; omega) | omega
theorem sgn_le0 {X : Int} (h : X ≤ 0) : sgnI X ≤ 0 := by unfold sgnI; split <;> (try split) <;> omega
theorem sgn_ge0 {X : Int} (h : 0 ≤ X) : 0 ≤ sgnI X := by unfold sgnI; split <;> (try split) <;> omega
theorem sgn_lt0 {X : Int} (h : X < 0) : sgnI X < 0 := by unfold sgnI; split <;> omega
/-- What the loops over the five keep. -/
def LoR (w : World) (b : Bool) (A : Option Addr) (n c : Nat) (X : Int) (k : Nat) (wr : World) : Prop := Below w.heap.size w wr ∧ Bx wr w.heap.size b A n c ∧ Zr wr b A n c X k
end Go.Proofs.Ythlpdljkclngdaa
