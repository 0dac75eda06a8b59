/-
  The law NatBack, as a call.
-/
import Derived.Test.YtniippglkboieaaParse
import Derived.Test.YtniippglkboieaaPowers
namespace Go.Proofs.Ytniippglkboieaa
open Go.RowKit
set_option linter.unusedVariables false

theorem hexC_back {d : Nat} (hd : d < 16) : dvI ((hexC d).toNat : Int) = d ∧ dvB ((hexC d).toNat : Int) = true := by
  rcases (show d = 0 ∨ d = 1 ∨ d = 2 ∨ d = 3 ∨ d = 4 ∨ d = 5 ∨ d = 6 ∨ d = 7 ∨ d = 8 ∨ d = 9 ∨ d = 10 ∨ d = 11 ∨ d = 12 ∨ d = 13 ∨ d = 14 ∨ d = 15 by omega) with rfl | rfl | rfl | rfl | rfl | rfl | rfl | rfl | rfl | rfl | rfl | rfl | rfl | rfl | rfl | rfl <;> decide
theorem tdg_append (x y : List UInt8) : tdg (x ++ y) = tdg y ++ tdg x := by simp [tdg]
theorem tdg_tl (N k : Nat) : vl 16 (tdg (tl N k)) = N % 16 ^ k := by
  induction k with
  | zero => simp [tl, tdg, vl, Nat.mod_one]
  | succ k ih =>
    have e : tl N (k + 1) = [hexC (N / 16 ^ k % 16)] ++ tl N k := rfl
    rw [e, tdg_append, vl_append, ih, tdg_length, tl_length]
    have h := (hexC_back (d := N / 16 ^ k % 16) (Nat.mod_lt _ (by omega))).1
    have e2 : vl 16 (tdg [hexC (N / 16 ^ k % 16)]) = N / 16 ^ k % 16 := by
      show (dvI ((hexC (N / 16 ^ k % 16)).toNat : Int)).toNat + 16 * 0 = _
      rw [h]; omega
    rw [e2, Nat.mod_pow_succ]
theorem tdg_zeros (k : Nat) : tdg (List.replicate k 48) = List.replicate k 0 := by
  simp [tdg]
  right
  decide
theorem hexN_lt (N : Nat) : N < 16 ^ hexN N := by
  rw [pow16]
  have h1 := lt_bl N
  have h2 : 2 ^ bl N ≤ 2 ^ (4 * hexN N) := Nat.pow_le_pow_right (by omega) (by unfold hexN; omega)
  omega
theorem back_val (N k : Nat) : vl 16 (tdg (List.replicate k 48 ++ tl N (hexN N))) = N := by
  rw [tdg_append, vl_append, tdg_tl, tdg_zeros, vl_replicate, Nat.mul_zero, Nat.add_zero, Nat.mod_eq_of_lt (hexN_lt N)]
theorem tl_ok (N k : Nat) : ∀ b ∈ tl N k, dvB (b.toNat : Int) = true := by
  induction k with
  | zero => intro b hb; cases hb
  | succ k ih =>
    intro b hb
    rcases List.mem_cons.1 hb with rfl | h
    · exact (hexC_back (Nat.mod_lt _ (by omega))).2
    · exact ih b h
theorem back_ok (N k : Nat) : OkS (List.replicate k 48 ++ tl N (hexN N)) := by
  refine ⟨fun h => ?_, fun b hb => ?_⟩
  · have h1 := congrArg List.length h
    rw [List.length_append, tl_length] at h1
    have : 1 ≤ hexN N := by unfold hexN; omega
    simp at h1
    omega
  · rcases List.mem_append.1 hb with h | h
    · rw [List.eq_of_mem_replicate h]; decide
    · exact tl_ok _ _ b h

set_option maxHeartbeats 4000000 in
theorem NatBack_any (A : Option Addr) (n c : Nat) (l1 : List Int) (x : Int) (w : World) (ga : Rd w w.heap.size A n c l1) (_hx : -9223372036854775808 ≤ x ∧ x ≤ 9223372036854775807) :
    Calls Try.prog 9 #[.slice A n c, .int .i64 x] w fun e w' => e = .returned (.bool true) ∧ Below w.heap.size w w' := by
  obtain ⟨s, hs⟩ : ∃ s : Nat, bits .and .i64 x 31 = (s : Int) ∧ s ≤ 31 := by
    have h := mask_i64 x 5 (by omega)
    have e : ((2 : Int) ^ 5 - 1) = 31 := by decide
    have e2 : (2 : Int) ^ 5 = 32 := by decide
    rw [e, e2] at h
    exact ⟨(x % 32).toNat, by rw [h]; omega, by omega⟩
  obtain ⟨hs1, hs2⟩ := hs
  go_enter Try.func9, Try.ntmps9
  go_wp2_with fail
  refine (shown_any _).mono ?_
  rintro e w1 ⟨rfl, hb⟩
  have ga := (ga.below hb).more hb.size
  go_wp2_with fail
  refine (cut_any _ _ _ _ 40 _ _ ga (by omega)).mono ?_
  rintro e w' ⟨A1, n1, c1, rfl, hn1, ga, rfl⟩
  have m1 := Sm.of ga hn1
  generalize hN1 : vl Wd (l1.take 40) = N at *
  have HN := Lib.hid hN1; clear hN1
  have hbl := m1.bl
  have hhx : hexN N ≤ 641 := by unfold hexN; omega
  go_wp2_with fail
  refine (Hex_any _ _ _ _ _ ga (by omega)).mono ?_
  rintro e w2 ⟨rfl, hb1⟩
  rw [HN.out]
  have ga := (ga.below hb1).more hb1.size
  have hb := hb.trans (hb1.mono hb.size)
  clear hb1 hbl
  obtain ⟨S0, hS0⟩ : ∃ S0, S0 = ByteArray.mk (List.replicate 0 48 ++ tl N (hexN N)).toArray := ⟨_, rfl⟩
  have hS00 : ByteArray.mk (tl N (hexN N)).toArray = S0 := by rw [hS0]; simp
  have hsz0 : S0.size ≤ 641 := by rw [hS0]; show (List.replicate 0 48 ++ tl N (hexN N)).toArray.size ≤ 641; simp [tl_length]; exact hhx
  rw [hS00]
  have HS0 := Lib.hid hS0
  clear hS0 hS00
  go_wp2_with fail
  go_loop [6, 7] (fun sv i => ∃ (k : Nat) (S : ByteArray), k ≤ s ∧ i = .int .i64 k ∧ sv = .string S ∧ S.size ≤ 641 + k ∧ Hid (S = ByteArray.mk (List.replicate k 48 ++ tl N (hexN N)).toArray)) (fun _ i => s - (intOf i).toNat)
  case atStart => exact ⟨0, S0, Nat.zero_le _, rfl, rfl, by omega, HS0⟩
  case round =>
    obtain ⟨k, S, hk, rfl, rfl, hsz, HS⟩ := hrel
    clear HS0 hsz0
    by_cases hks : k < s
    · go_wp2
      go_round
      case rel =>
        refine ⟨k + 1, _, by omega, by go_num, rfl, ?_, ?_⟩
        · rw [ByteArray.size_append']; show 1 + _ ≤ _; omega
        · show _ = _
          rw [HS.out]
          exact ByteArray.mk_append_mk [48] _
      case measure => simp [intOf]; omega
    · go_wp2_with fail
      refine (Parse_any S _ (by omega)).mono ?_
      rintro e w3 hp
      have hls : S.data.toList = List.replicate k 48 ++ tl N (hexN N) := by rw [HS.out]
      rw [hls] at hp
      rcases hp with ⟨_, A3, n3, c3, rfl, g3, hb1⟩ | ⟨hbad, _⟩
      · rw [back_val] at g3
        have ga := (ga.below hb1).more hb1.size
        have hb := hb.trans (hb1.mono hb.size)
        clear hb1 hls
        go_wp2_with fail
        refine (Norm_any _ _ _ _ _ _ ga (Nat.le_refl _)).mono ?_
        rintro e w4 ⟨A4, n4, c4, rfl, g4, hb1⟩
        rw [HN.out] at g4
        have g3 := (g3.below hb1).more hb1.size
        have hb := hb.trans (hb1.mono hb.size)
        clear hb1
        go_wp2_with fail
        refine (Same_any _ _ _ _ _ _ _ _ _ _ g3 g4).mono ?_
        rintro e w5 ⟨rfl, hq⟩
        rw [sameB_self]
        have hb1 := hq.bel
        have hb := hb.trans (hb1.mono hb.size)
        go_wp2
        go_ret
        exact ⟨rfl, hb⟩
      · exact absurd (back_ok _ _) hbad
end Go.Proofs.Ytniippglkboieaa
