/-
  bits: Parts, Normal, join.
-/
import Derived.Test.YthbodamihiddhaaDoorBnum
namespace Go.Proofs.YthbodamihiddhaaDoor
open Go.RowKit
set_option linter.unusedVariables false

theorem tup_a {v u : Value} {a b : Int} {k : IntKind} (h : v = u) (h2 : a = b) : Ending.returned (.tuple #[v, .int k a]) = .returned (.tuple #[u, .int k b]) := by rw [h, h2]
theorem ret_u {a b : Int} {k : IntKind} (h : a = b) : Ending.returned (.int k a) = .returned (.int k b) := by rw [h]
theorem nm_eq (n : Nat) : ((n : Int) != 0 && (n : Int) != 2047) = decide (n ≠ 0 ∧ n ≠ 2047) := by
  by_cases h0 : n = 0
  · subst h0; rfl
  · by_cases h1 : n = 2047
    · subst h1; rfl
    · have a : ((n : Int) != 0) = true := by simp; omega
      have b : ((n : Int) != 2047) = true := by simp; omega
      rw [a, b]; simp [h0, h1]
theorem ret_b {a b : Bool} (h : a = b) : Ending.returned (.bool a) = .returned (.bool b) := by rw [h]

set_option maxRecDepth 100000 in
set_option maxHeartbeats 1000000 in
theorem Parts_any (x : Int) (b : Nat) (hx : x = b) (hl : b < 18446744073709551616) {w : World} :
    Calls Tryd.prog 9 #[.int .u64 x] w fun en w' => en = .returned (.tuple #[.bool (sgN b), .int .i64 (fdN b), .int .u64 (frN b)]) ∧ Below w.heap.size w w' := by
  subst hx
  have k1 := and_field b hl
  have k2 := and_frac b hl
  have k0 := and_sign b hl
  obtain ⟨S, k3, k4⟩ : ∃ S, bits .and .u64 (b : Int) 9223372036854775808 = S ∧ (S == 0) = !sgN b := ⟨_, rfl, by rw [k0]; cases sgN b <;> rfl⟩
  have h1 := fdN_lt b
  have hw : IntKind.i64.wrap (fdN b : Int) = fdN b := wrap_in (by omega) (by omega)
  clear k0
  go_enter Tryd.func9, Tryd.ntmps9
  go_wp2_with (simp only [k1, k2, k3])
  have hb := Below.refl w.heap.size w
  have k5 : (S != 0) = sgN b := by rw [bne, k4, Bool.not_not]
  refine bodyPost_ret (v := .tuple #[.bool (sgN b), .int .i64 (fdN b), .int .u64 (frN b)]) (by simp [results, Tryd.results9, go_sem, k5]) rfl ?_
  exact ⟨rfl, hb⟩

set_option maxRecDepth 100000 in
set_option maxHeartbeats 1000000 in
theorem Normal_any (x : Int) (b : Nat) (hx : x = b) (hl : b < 18446744073709551616) {w : World} :
    Calls Tryd.prog 16 #[.int .u64 x] w fun en w' => en = .returned (.bool (nmN b)) ∧ Below w.heap.size w w' := by
  subst hx
  have hb := Below.refl w.heap.size w
  go_enter Tryd.func16, Tryd.ntmps16
  go_wp2_with fail
  with_reducible refine (Parts_any _ b rfl hl).mono ?_
  rintro e v1 ⟨rfl, hb1⟩
  replace hb := bthen hb hb1
  clear hb1
  go_wp2
  all_goals go_ret
  all_goals refine ⟨ret_b ?_, hb⟩
  · rename_i h0; unfold nmN; simp [h0]
  · exact nm_eq _

set_option maxRecDepth 100000 in
set_option maxHeartbeats 1000000 in
theorem join_any (m e : Int) (M : Nat) (hm : m = M) (hM : M < 9007199254740992) (he : -1074 ≤ e ∧ e ≤ 971) {w : World} :
    Calls Tryd.prog 31 #[.int .u64 m, .int .i64 e] w fun en w' => en = .returned (.int .u64 (((e + 1074).toNat * 4503599627370496 + M : Nat) : Int)) ∧ Below w.heap.size w w' := by
  subst hm
  have w1 : IntKind.i64.wrap (e + 1074) = e + 1074 := wrap_in (by omega) (by omega)
  have w1b : IntKind.i64.wrap (e - -1074) = e + 1074 := by rw [show e - -1074 = e + 1074 by omega, w1]
  have w2 : IntKind.u64.wrap (e + 1074) = e + 1074 := by rw [wrap_u64]; omega
  have w3 : IntKind.u64.wrap ((e + 1074) * 4503599627370496) = (e + 1074) * 4503599627370496 := by rw [wrap_u64]; omega
  have w4 : IntKind.u64.wrap ((e + 1074) * 4503599627370496 + M) = (e + 1074) * 4503599627370496 + M := by rw [wrap_u64]; omega
  have hb := Below.refl w.heap.size w
  go_enter Tryd.func31, Tryd.ntmps31
  go_wp2
  go_ret
  refine ⟨ret_u ?_, hb⟩
  omega

theorem join_at (m e : Int) (M J : Nat) (hm : m = M) (hM : M < 9007199254740992) (he : -1074 ≤ e ∧ e ≤ 971) (hJ : (e + 1074).toNat * 4503599627370496 + M = J) {w : World} :
    Calls Tryd.prog 31 #[.int .u64 m, .int .i64 e] w fun en w' => en = .returned (.int .u64 (J : Int)) ∧ Below w.heap.size w w' := by
  subst hJ; exact join_any m e M hm hM he
end Go.Proofs.YthbodamihiddhaaDoor
