/-
  zed: zeros, writeChunk.
-/
import Derived.Test.YtcoidcbbdibnaaaDoorZsmall
import Derived.Test.YtcoidcbbdibnaaaDoorZdec
namespace Go.Proofs.YtcoidcbbdibnaaaDoor
open Go.RowKit
set_option linter.unusedVariables false

set_option maxHeartbeats 1000000 in
theorem zeros_any (s : ByteArray) (w : World) (hs : s.size ≤ 1099511627776) : Calls Tryd.prog 74 #[.string s] w fun e w' => e = .returned (.int .i64 (lz s.data.toList)) ∧ w = w' := by
  have hlen : s.data.toList.length = s.size := by rw [Array.length_toList]; rfl
  have HL := Lib.hid hlen; clear hlen
  go_enter Tryd.func74, Tryd.ntmps74
  go_wp2
  go_loop [3] (fun i => ∃ k : Nat, k ≤ s.size ∧ i = .int .i64 k ∧ Hid (∀ i (hi : i < s.data.toList.length), i < k → s.data.toList[i] = 48)) (fun i => s.size - (intOf i).toNat)
  case atStart => exact ⟨0, Nat.zero_le _, rfl, fun i hi h => absurd h (by omega)⟩
  case round =>
    obtain ⟨k, hk, rfl, hz⟩ := hrel
    by_cases hlt : k < s.size
    · have hkl : k < s.data.toList.length := by have := HL.out; omega
      have hbj : s.data.toList[k] = s[k] := rfl
      by_cases hx : s[k] = 48
      · have hn : ((s[k].toNat : Int) == 48) = true := by rw [hx]; rfl
        have R : Hid (∀ i (hi : i < s.data.toList.length), i < k + 1 → s.data.toList[i] = 48) := fun i hi hik => by
          rcases Nat.lt_or_ge i k with h1 | h1
          · exact hz.out i hi h1
          · obtain rfl : k = i := by omega
            exact hbj.trans hx
        clear hx hbj
        go_wp2
        go_round
        case rel => exact ⟨k + 1, by omega, by go_num, R⟩
        case measure => simp [intOf]; omega
      · have hn : ((s[k].toNat : Int) == 48) = false := by
          rw [beq_eq_false_iff_ne]; intro h; exact hx (UInt8.toNat_inj.1 (by rw [show (48 : UInt8).toNat = 48 from rfl]; omega))
        have R : lz s.data.toList = k := takeWhile_all (by omega) hz.out (fun _ => by rw [hbj]; exact hx)
        have HR := Lib.hid R; clear R hx hbj
        go_wp2
        go_ret
        exact ⟨ret_i64 (by rw [HR.out]), rfl⟩
    · obtain rfl : s.size = k := by omega
      have R : lz s.data.toList = s.size := takeWhile_all (by have := HL.out; omega) hz.out (fun hi => absurd hi (by have := HL.out; omega))
      have HR := Lib.hid R; clear R
      go_wp2
      go_ret
      exact ⟨ret_i64 (by rw [HR.out]), rfl⟩

/-- A window of bytes in a block, the last k of them written. -/
def WcRel (w : World) (g : Nat) (P W S : List UInt8) (N k : Nat) (lv : Value) (wr : World) : Prop :=
  lv = .int .u64 ((N / 10 ^ k : Nat) : Int) ∧ Bk8 wr g (P ++ ((W.take (W.length - k) ++ td N k) ++ S)) ∧ w.grownBy wr (some g)
theorem wc_step {P W S : List UInt8} {N k : Nat} (hk : k < W.length) :
    (P ++ ((W.take (W.length - k) ++ td N k) ++ S)).set (P.length + (W.length - 1 - k)) (digC (N / 10 ^ k % 10)) = P ++ ((W.take (W.length - (k + 1)) ++ td N (k + 1)) ++ S) := by
  obtain ⟨m, hm⟩ : ∃ m, W.length = m + 1 + k := ⟨W.length - 1 - k, by omega⟩
  rw [hm, show m + 1 + k - k = m + 1 by omega, show m + 1 + k - 1 - k = m by omega, show m + 1 + k - (k + 1) = m by omega]
  rw [List.set_append_right _ _ (by omega), show P.length + m - P.length = m by omega, List.append_assoc, List.set_append_left _ _ (by simp; omega)]
  have hmW : m < W.length := by omega
  rw [List.take_succ_eq_append_getElem hmW, List.set_append_right _ _ (by simp; omega)]
  simp [td, show min m W.length = m by omega]
theorem dig_val {N k : Nat} (hN : N < 18446744073709551616) : ∃ x : Int, x = ((N / 10 ^ k : Nat) : Int) ∧ 0 ≤ x ∧ x < 18446744073709551616 ∧ x % 10 = ((N / 10 ^ k % 10 : Nat) : Int) ∧ x / 10 = ((N / 10 ^ (k + 1) : Nat) : Int) := by
  refine ⟨_, rfl, Int.natCast_nonneg _, ?_, by omega, ?_⟩
  · have := Nat.div_le_self N (10 ^ k); omega
  · rw [Nat.pow_succ, ← Nat.div_div_eq_div_mul]; omega

set_option maxHeartbeats 2000000 in
theorem writeChunk_any (g off n c : Nat) (P W S : List UInt8) (N : Nat) (w : World) (hbk : Bk8 w g (P ++ (W ++ S))) (hP : P.length = off) (hW : W.length = n) (hn : n ≤ 1000000) (hc : n ≤ c) (hN : N < 18446744073709551616) :
    Calls Tryd.prog 94 #[.slice (some ⟨g, off, none⟩) n c, .int .u64 (N : Int)] w fun e w' => e = .returned (.tuple #[]) ∧ Bk8 w' g (P ++ (td N n ++ S)) ∧ w.grownBy w' (some g) := by
  have HP := Lib.hid hP; have HW := Lib.hid hW; clear hP hW
  have HN := Lib.hid hN; clear hN
  go_enter Tryd.func94, Tryd.ntmps94
  go_wp2
  go_loopw [1, 4, 7] (fun l _ i wr => ∃ k : Nat, k ≤ n ∧ i = .int .i64 k ∧ WcRel w g P W S N k l wr) (fun _ _ i _ => n - (intOf i).toNat)
  case atStart => exact ⟨0, Nat.zero_le _, rfl, by simp, by simpa [td] using hbk, ⟨rfl, rfl, rfl, Nat.le_refl _, fun _ _ _ => rfl⟩⟩
  case round =>
    obtain ⟨k, hk, rfl, rfl, k1, k2⟩ := hrel
    by_cases hkm : k < n
    · obtain ⟨x, hx, x0, x1, x2, x3⟩ := dig_val (k := k) HN.out
      obtain ⟨j, hj⟩ : ∃ j, n = j + 1 + k := ⟨n - 1 - k, by omega⟩
      have hd : N / 10 ^ k % 10 < 10 := Nat.mod_lt _ (by omega)
      have hlen : off + j < (P ++ ((W.take (W.length - k) ++ td N k) ++ S)).length := by
        have := HP.out; have := HW.out; simp [td_length]; omega
      have hc1 := k1.cell (off + j) hlen
      have hf1 := k1.frozen (off + j)
      have hst := k1.set (off + j) (digC (N / 10 ^ k % 10))
      have e2 : off + j = P.length + (W.length - 1 - k) := by have := HP.out; have := HW.out; omega
      rw [e2, wc_step (by have := HW.out; omega), ← e2] at hst
      have e1 : (n : Int) - 1 - k = j := by omega
      have hjn : (j : Int) < n := by omega
      generalize hz : (P ++ ((W.take (W.length - k) ++ td N k) ++ S))[off + j] = z at hc1
      have hdc := digC_toNat hd
      have e3 : (48 + (N / 10 ^ k % 10 : Nat) : Int) = ((digC (N / 10 ^ k % 10)).toNat : Int) := by omega
      rw [← hx]
      generalize hde : N / 10 ^ k % 10 = d at *
      have w1 : IntKind.u8.wrap (d : Int) = d := by rw [IntKind.wrap_u8]; omega
      have R : WcRel w g P W S N (k + 1) (.int .u64 (x / 10)) (wr.setCell ⟨g, off + j, none⟩ (.int .u8 ((digC d).toNat : Int))) := ⟨by rw [x3], hst, grownBy_trans k2 (grownBy_set _ _ _ _)⟩
      rw [← e3] at R
      clear hst hlen e2 hz k1 k2 hdc e3 x3 hx hde hj
      go_wp2
      go_roundw
      case rel => exact ⟨k + 1, by omega, by go_num, R⟩
      case measure => simp [intOf]; omega
    · obtain rfl : n = k := by omega
      have k1' : Bk8 wr g (P ++ (td N n ++ S)) := by rw [HW.out, Nat.sub_self, List.take_zero, List.nil_append] at k1; exact k1
      go_wp2
      go_end0
      exact ⟨rfl, k1', k2⟩
end Go.Proofs.YtcoidcbbdibnaaaDoor
