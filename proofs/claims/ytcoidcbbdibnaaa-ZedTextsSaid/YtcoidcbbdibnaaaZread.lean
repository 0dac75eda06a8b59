/-
  zed: decimal, readChunk, readDigits.
-/
import Derived.Test.YtcoidcbbdibnaaaZtext
import Derived.Test.YtcoidcbbdibnaaaZval
namespace Go.Proofs.Ytcoidcbbdibnaaa
open Go.RowKit
set_option linter.unusedVariables false

theorem isD_byte {c : UInt8} : isD c = true ↔ (48 ≤ (c.toNat : Int) ∧ (c.toNat : Int) ≤ 57) := by
  unfold isD; rw [decide_eq_true_iff]; omega

set_option maxHeartbeats 1000000 in
theorem decimal_any (s : ByteArray) (w : World) (hs : s.size ≤ 1099511627776) : Calls Try.prog 39 #[.string s] w fun e w' => e = .returned (.bool (okD s.data.toList)) ∧ w = w' := by
  have hlen : s.data.toList.length = s.size := by rw [Array.length_toList]; rfl
  have HL := Lib.hid hlen; clear hlen
  go_enter Try.func39, Try.ntmps39
  go_wp2
  go_loop [3, 6] (fun _ i => ∃ k : Nat, k ≤ s.size ∧ i = .int .i64 k ∧ Hid (∀ i (hi : i < s.data.toList.length), i < k → isD s.data.toList[i] = true)) (fun _ i => s.size - (intOf i).toNat)
  case atStart => exact ⟨0, Nat.zero_le _, rfl, fun i hi h => absurd h (by omega)⟩
  case round =>
    obtain ⟨k, hk, rfl, hz⟩ := hrel
    by_cases hlt : k < s.size
    · have hkl : k < s.data.toList.length := by have := HL.out; omega
      have hbj : s.data.toList[k] = s[k] := rfl
      cases hx : isD s[k]
      · have hno : ¬ (48 ≤ (s[k].toNat : Int) ∧ (s[k].toNat : Int) ≤ 57) := fun h => by rw [isD_byte.2 h] at hx; cases hx
        have hF : okD s.data.toList = false := by
          unfold okD
          rw [Bool.and_eq_false_iff]
          right
          rw [← Bool.not_eq_true, List.all_eq_true]
          intro h
          have := h _ (List.getElem_mem hkl)
          rw [hbj, hx] at this; cases this
        have HF := Lib.hid hF; clear hF hx hbj
        have hcb : s[k].toNat < 256 := UInt8.toNat_lt s[k]
        generalize hce : (s[k].toNat : Int) = c at *
        by_cases hc1 : c < 48
        · go_wp2
          go_ret
          exact ⟨ret_bool HF.out.symm, rfl⟩
        · have hc2 : 57 < c := by omega
          go_wp2
          go_ret
          exact ⟨ret_bool HF.out.symm, rfl⟩
      · obtain ⟨hc1, hc2⟩ := isD_byte.1 hx
        have R : Hid (∀ i (hi : i < s.data.toList.length), i < k + 1 → isD s.data.toList[i] = true) := fun i hi hik => by
          rcases Nat.lt_or_ge i k with h1 | h1
          · exact hz.out i hi h1
          · obtain rfl : k = i := by omega
            rw [hbj]; exact hx
        clear hx hbj
        generalize hce : (s[k].toNat : Int) = c at *
        have hc3 : ¬ c < 48 := by omega
        have hc4 : ¬ 57 < c := by omega
        go_wp2
        go_round
        case rel => exact ⟨k + 1, by omega, by go_num, R⟩
        case measure => simp [intOf]; omega
    · obtain rfl : s.size = k := by omega
      have hF : okD s.data.toList = decide (0 < s.size) := by
        unfold okD
        have hall : s.data.toList.all isD = true := by
          rw [List.all_eq_true]; intro c hc
          obtain ⟨i, hi, rfl⟩ := List.mem_iff_getElem.1 hc
          exact hz.out i hi (by have := HL.out; omega)
        rw [hall, Bool.and_true]
        have := HL.out
        cases hl : s.data.toList with
        | nil => rw [hl] at this; simp at this; simp [← this]
        | cons x l => rw [hl] at this; simp at this; simp [← this]
      have HF := Lib.hid hF; clear hF
      go_wp2
      go_ret
      exact ⟨ret_bool (by rw [HF.out]), rfl⟩
theorem take_snoc8 {l : List UInt8} {k : Nat} (hk : k < l.length) : dv (l.take (k + 1)) = dv (l.take k) * 10 + (l[k].toNat - 48) := by
  rw [List.take_succ_eq_append_getElem hk, dv_snoc]
theorem pow19 {k : Nat} (hk : k ≤ 18) : (10 : Nat) ^ k ≤ 1000000000000000000 := by
  have := Nat.pow_le_pow_right (n := 10) (by omega) hk
  rw [show (10 : Nat) ^ 18 = 1000000000000000000 from rfl] at this
  exact this

set_option maxHeartbeats 1000000 in
theorem readChunk_any (s : ByteArray) (w : World) (hs : s.size ≤ 19) (hd : ∀ c ∈ s.data.toList, isD c = true) : Calls Try.prog 60 #[.string s] w fun e w' => e = .returned (.int .u64 (dv s.data.toList)) ∧ w = w' := by
  have hlen : s.data.toList.length = s.size := by rw [Array.length_toList]; rfl
  have HL := Lib.hid hlen; clear hlen
  have HD := Lib.hid hd; clear hd
  go_enter Try.func60, Try.ntmps60
  go_wp2
  go_loop [3, 4, 7] (fun v _ i => ∃ k : Nat, k ≤ s.size ∧ i = .int .i64 k ∧ v = .int .u64 (dv (s.data.toList.take k))) (fun _ _ i => s.size - (intOf i).toNat)
  case atStart => exact ⟨0, Nat.zero_le _, rfl, rfl⟩
  case round =>
    obtain ⟨k, hk, rfl, rfl⟩ := hrel
    by_cases hlt : k < s.size
    · have hkl : k < s.data.toList.length := by have := HL.out; omega
      have hbj : s.data.toList[k] = s[k] := rfl
      have hcd := HD.out _ (List.getElem_mem hkl)
      rw [hbj] at hcd
      obtain ⟨hc1, hc2⟩ := isD_byte.1 hcd
      have hst := take_snoc8 hkl
      rw [hbj] at hst
      have hb : dv (s.data.toList.take k) < 10 ^ k := by
        have := dv_lt (l := s.data.toList.take k) (fun c hc => HD.out c (List.mem_of_mem_take hc))
        rwa [List.length_take, Nat.min_eq_left (by omega)] at this
      have hb2 := pow19 (k := k) (by omega)
      obtain ⟨x, hx⟩ : ∃ x : Int, x = ((dv (s.data.toList.take k) : Nat) : Int) := ⟨_, rfl⟩
      obtain ⟨d, hdd⟩ : ∃ d : Int, d = (s[k].toNat : Int) - 48 := ⟨_, rfl⟩
      have hx0 : 0 ≤ x := by omega
      have hx1 : x < 1000000000000000000 := by omega
      have hd0 : 0 ≤ d ∧ d ≤ 9 := by omega
      have hr : ((dv (s.data.toList.take (k + 1)) : Nat) : Int) = x * 10 + d := by rw [hst, hx, hdd]; omega
      have HR := Lib.hid hr
      have w1 : IntKind.u8.wrap ((s[k].toNat : Int) - 48) = d := by rw [IntKind.wrap_u8, hdd]; omega
      have w2 : IntKind.u64.wrap (x * 10) = x * 10 := by rw [wrap_u64]; omega
      have w3 : IntKind.u64.wrap (x * 10 + d) = x * 10 + d := by rw [wrap_u64]; omega
      have w4 : IntKind.u64.wrap d = d := by rw [wrap_u64]; omega
      rw [← hx]
      clear hst hb hb2 hcd hbj hr hx hdd
      go_wp2
      go_round
      case rel => exact ⟨k + 1, by omega, by go_num, by rw [HR.out]⟩
      case measure => simp [intOf]; omega
    · obtain rfl : s.size = k := by omega
      have hF : s.data.toList.take s.size = s.data.toList := List.take_of_length_le (by have := HL.out; omega)
      rw [hF]
      clear hF
      go_wp2
      go_ret
      exact ⟨rfl, rfl⟩
end Go.Proofs.Ytcoidcbbdibnaaa
