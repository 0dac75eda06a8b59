/-
  The document's answer: Hex.
-/
import Derived.Test.YtniippglkboieaaRparse
import Derived.Test.YtniippglkboieaaBack
namespace Go.Proofs.Ytniippglkboieaa
open Go.RowKit
set_option linter.unusedVariables false

/-- A number's digits, none for nought. -/
def hx (M : Nat) : List UInt8 := if M = 0 then [] else tl M (hexN M)
theorem tl_push (M c k : Nat) (hc : c < 16) : tl (16 * M + c) (k + 1) = tl M k ++ [hexC c] := by
  induction k with
  | zero =>
    show [hexC ((16 * M + c) / 16 ^ 0 % 16)] = [hexC c]
    rw [Nat.pow_zero, Nat.div_one]
    congr 2
    omega
  | succ k ih =>
    show hexC ((16 * M + c) / 16 ^ (k + 1) % 16) :: tl (16 * M + c) (k + 1) = (hexC (M / 16 ^ k % 16) :: tl M k) ++ [hexC c]
    rw [ih, Nat.pow_succ, Nat.mul_comm (16 ^ k) 16, ← Nat.div_div_eq_div_mul]
    have : (16 * M + c) / 16 = M := by omega
    rw [this]; rfl
theorem bl_push {M c : Nat} (hM : 0 < M) (hc : c < 16) : bl (16 * M + c) = bl M + 4 := by
  have h1 : 2 ^ 4 ≤ 16 * M + c := by omega
  have h2 := bl_div h1
  have : (16 * M + c) / 2 ^ 4 = M := by omega
  rw [this] at h2
  omega
theorem hx_zero : hx 0 = [] := rfl
theorem hx_push {M c : Nat} (hc : c < 16) (h : ¬ (M = 0 ∧ c = 0)) : hx (16 * M + c) = hx M ++ [hexC c] := by
  unfold hx
  rw [if_neg (by omega)]
  by_cases hM : M = 0
  · subst hM
    rw [if_pos rfl, Nat.mul_zero, Nat.zero_add, hex_small hc]; rfl
  · rw [if_neg hM]
    have hb := bl_push (M := M) (c := c) (by omega) hc
    have hp : 0 < bl M := bl_ge (k := 0) (by omega)
    have e : hexN (16 * M + c) = hexN M + 1 := by unfold hexN; rw [hb]; omega
    rw [e, tl_push M c _ hc]
theorem hx_nil {M : Nat} : hx M = [] ↔ M = 0 := by
  unfold hx
  split
  · simpa
  · refine ⟨fun h => ?_, fun h => absurd h ‹_›⟩
    have := tl_length M (hexN M)
    rw [h] at this
    unfold hexN at this
    simp at this
    omega
theorem hx_len {N p : Nat} : (hx (N / 2 ^ p)).length ≤ hexN N := by
  unfold hx
  split
  · simp
  · rw [tl_length]
    unfold hexN
    have := bl_le (n := N / 2 ^ p) (k := bl N) (Nat.lt_of_le_of_lt (Nat.div_le_self _ _) (lt_bl N))
    omega
/-- One more digit in sight. -/
theorem hx_step {N p : Nat} : N / 2 ^ p = 16 * (N / 2 ^ (p + 4)) + N / 2 ^ p % 16 := by
  rw [Nat.pow_add, ← Nat.div_div_eq_div_mul, show (2 : Nat) ^ 4 = 16 by rfl]
  omega
theorem hex_slice (d : Nat) (hd : d < 16) : ByteArray.extract { data := #[48, 49, 50, 51, 52, 53, 54, 55, 56, 57, 97, 98, 99, 100, 101, 102] } d (d + 1) = ⟨[hexC d].toArray⟩ := by
  rcases (show d = 0 ∨ d = 1 ∨ d = 2 ∨ d = 3 ∨ d = 4 ∨ d = 5 ∨ d = 6 ∨ d = 7 ∨ d = 8 ∨ d = 9 ∨ d = 10 ∨ d = 11 ∨ d = 12 ∨ d = 13 ∨ d = 14 ∨ d = 15 by omega) with rfl | rfl | rfl | rfl | rfl | rfl | rfl | rfl | rfl | rfl | rfl | rfl | rfl | rfl | rfl | rfl <;> rfl
theorem hx_empty {S : ByteArray} {M : Nat} (h : S = ByteArray.mk (hx M).toArray) : S.toList.isEmpty = decide (M = 0) := by
  rw [ByteArray.toList_eq, h]
  have := hx_nil (M := M)
  cases hl : hx M with
  | nil => rw [hl] at this; simp [this.1 rfl]
  | cons a t => rw [hl] at this; simp at this ⊢; exact this

set_option maxHeartbeats 4000000 in
theorem RHex_any (A : Option Addr) (n c : Nat) (l : List Int) (w : World) (h : Rd w w.heap.size A n c l) (hn : n ≤ 1000000) :
    Calls Try.prog 42 #[.slice A n c] w fun e w' => e = .returned (.string ⟨(tl (vl Wd l) (hexN (vl Wd l))).toArray⟩) ∧ Below w.heap.size w w' := by
  have Z1 := Lib.hid (Sm.of h hn)
  generalize hN : vl Wd l = N at *
  have HN := Lib.hid hN; clear hN
  go_enter Try.func42, Try.ntmps42
  go_wp2_with fail
  refine (Digits_any _ _ _ _ _ h (by omega)).mono ?_
  rintro e w1 ⟨A1, n1, c1, rfl, g1, hb1⟩
  rw [HN.out] at g1
  have y1 := g1.smallH Z1.out
  have H := Lib.hid g1.len
  have hcap := g1.cap
  have hbN : bl N ≤ 64000000 := by
    have h1 := dg_lt Hb2 (Nat.le_of_eq H.out)
    rw [Hb_pow_k] at h1
    have := bl_le h1
    omega
  have hhN : hexN N ≤ 16000001 := by unfold hexN; omega
  have HH := Lib.hid hhN
  have hz : N / 2 ^ (32 * n1) = 0 := by
    have h1 := dg_lt Hb2 (Nat.le_of_eq H.out)
    rw [Hb_pow_k] at h1
    exact Nat.div_eq_of_lt h1
  have hs0 : ByteArray.mk #[] = ByteArray.mk (hx (N / 2 ^ (32 * n1))).toArray := by rw [hz]; rfl
  have HS0 := Lib.hid hs0
  clear Z1 hz hs0 hbN hhN
  go_wp2_with fail
  go_loop [4, 5, 6, 7] (fun sv iv _ _ => ∃ (j : Nat) (S : ByteArray), j ≤ n1 ∧ iv = .int .i64 ((j : Int) - 1) ∧ sv = .string S ∧ S.size ≤ 16000001 ∧ Hid (S = ByteArray.mk (hx (N / 2 ^ (32 * j))).toArray)) (fun _ iv _ _ => (intOf iv + 1).toNat)
  case atStart => exact ⟨n1, _, Nat.le_refl _, rfl, rfl, by show 0 ≤ _; omega, HS0⟩
  case round =>
    obtain ⟨j, S, hj, rfl, rfl, hsz, HS⟩ := hrel
    clear HS0
    rcases j with _ | j
    · have he := hx_empty HS.out
      have hN0 : N / 2 ^ (32 * 0) = N := by simp
      rw [hN0] at he
      by_cases h0 : N = 0
      · have he1 : S.toList.isEmpty = true := by rw [he]; simpa using h0
        have hfin : ByteArray.mk #[48] = ⟨(tl N (hexN N)).toArray⟩ := by rw [h0, hex_small (by omega)]; rfl
        have HF := Lib.hid hfin
        clear he hN0 h0 hfin
        go_wp2
        go_ret
        exact ⟨congrArg (fun x => Ending.returned (.string x)) HF.out, hb1⟩
      · have he1 : S.toList.isEmpty = false := by rw [he]; simpa using h0
        have hfin : S = ⟨(tl N (hexN N)).toArray⟩ := by rw [HS.out, hN0]; unfold hx; rw [if_neg h0]
        have HF := Lib.hid hfin
        clear he hN0 h0 hfin
        go_wp2
        go_ret
        exact ⟨congrArg (fun x => Ending.returned (.string x)) HF.out, hb1⟩
    · obtain ⟨b, of, rfl, hbb, hc⟩ := g1.at_ (by omega)
      have hjl : j < (dg Hb N).length := by have := H.out; omega
      have hcj := hc j hjl
      have bx := (Lim_dg Hb2 N).get hjl
      have hnib : ∀ m, m < 8 → (dg Hb N)[j].toNat / 2 ^ (4 * m) % 16 = N / 2 ^ (32 * j + 4 * m) % 16 := fun m hm => by
        have := limb_bitsH (Lim_dg Hb2 N) (e := 4) hjl (r := 4 * m) (by omega)
        rw [vl_dg Hb2] at this
        exact this
      have HNib := Lib.hid hnib
      clear hnib hc
      generalize (dg Hb N)[j] = x at *
      have bz := dig_lt bx
      have hlm : Lm x := by unfold Lm; rw [Wd_eq]; omega
      have HS' : Hid (S = ByteArray.mk (hx (N / 2 ^ (32 * j + 4 * 8))).toArray) := HS
      have ej : ((j + 1 : Nat) : Int) - 1 = j := by omega
      rw [ej]
      clear HS bx
      go_wp2_with fail
      go_loop [4, 6, 7] (fun sv kv _ => ∃ (m : Nat) (S : ByteArray), m ≤ 8 ∧ kv = .int .i64 ((m : Int) - 1) ∧ sv = .string S ∧ S.size ≤ 16000001 ∧ Hid (S = ByteArray.mk (hx (N / 2 ^ (32 * j + 4 * m))).toArray)) (fun _ kv _ => (intOf kv + 1).toNat)
      case atStart => exact ⟨8, _, Nat.le_refl _, rfl, rfl, hsz, HS'⟩
      case round =>
        obtain ⟨m, S, hm, rfl, rfl, hsz, HS⟩ := hrel
        clear HS'
        rcases m with _ | m
        · go_wp2
          go_round
          case rel => exact ⟨j, S, by omega, rfl, rfl, hsz, HS⟩
          case measure => simp [intOf]
        · have hs := shr_limb hlm (4 * m)
          obtain ⟨d, hd⟩ : ∃ d, N / 2 ^ (32 * j + 4 * m) % 16 = d := ⟨_, rfl⟩
          have hd16 : d < 16 := by omega
          have hand : bits .and .u64 (x / 2 ^ (4 * m)) 15 = (d : Int) := by
            rw [mask15 _ hs.1 hs.2.1, hs.2.2, ← hd, ← HNib.out m (by omega)]
            generalize x.toNat / 2 ^ (4 * m) = y
            omega
          have hst := hx_step (N := N) (p := 32 * j + 4 * m)
          rw [hd] at hst
          have hS1 : S = ByteArray.mk (hx (N / 2 ^ (32 * j + 4 * m + 4))).toArray := HS.out
          have hlen := hx_len (N := N) (p := 32 * j + 4 * m)
          generalize N / 2 ^ (32 * j + 4 * m + 4) = M at *
          generalize hP : N / 2 ^ (32 * j + 4 * m) = P at *
          have HP := Lib.hid hP
          have he := hx_empty hS1
          have ek : ((m + 1 : Nat) : Int) - 1 = m := by omega
          have er : (4 * (m : Int)).toNat = 4 * m := by omega
          by_cases h0 : M = 0 ∧ d = 0
          · have he1 : S.toList.isEmpty = true := by rw [he]; simpa using h0.1
            have hd0 : ((d : Int) == 0) = true := by simp [h0.2]
            have hres : S = ByteArray.mk (hx P).toArray := by rw [hS1, hst, h0.1, h0.2]
            have HR := Lib.hid hres
            clear he hst hS1 hres hlen hP hd hs h0
            go_wp2
            go_round
            case rel => exact ⟨m, S, by omega, rfl, rfl, hsz, by rw [HP.out]; exact HR⟩
            case measure => simp [intOf]
          · have hres : ByteArray.mk (hx P).toArray = S ++ ByteArray.mk [hexC d].toArray := by
              rw [hst, hx_push hd16 h0, hS1]; exact (ByteArray.mk_append_mk _ _).symm
            have hsz2 : (S ++ ByteArray.mk [hexC d].toArray).size ≤ 16000001 := by
              rw [← hres]
              show (hx P).toArray.size ≤ _
              have := HH.out
              simp only [List.size_toArray]
              omega
            have hcond : (S.toList.isEmpty && ((d : Int) == 0)) = false := by
              rw [he]
              simp only [Bool.and_eq_false_iff, decide_eq_false_iff_not, beq_eq_false_iff_ne]
              rcases Nat.eq_zero_or_pos M with h1 | h1
              · exact .inr (by omega)
              · exact .inl (by omega)
            have hsl := hex_slice d hd16
            have e0 : (d : Int).toNat = d := rfl
            have e1 : ((d : Int) + 1).toNat = d + 1 := rfl
            have HR := Lib.hid hres; have HZ := Lib.hid hsz2
            have hdd : (d : Int) < 16 := by omega
            clear he hst hS1 hres hlen hP hd hs hsz2
            cases hE : S.toList.isEmpty
            · clear hcond
              go_wp2
              go_round
              case rel => exact ⟨m, _, by omega, rfl, rfl, HZ.out, by rw [HP.out]; exact Lib.hid HR.out.symm⟩
              case measure => simp [intOf]
            · rw [hE, Bool.true_and] at hcond
              go_wp2
              go_round
              case rel => exact ⟨m, _, by omega, rfl, rfl, HZ.out, by rw [HP.out]; exact Lib.hid HR.out.symm⟩
              case measure => simp [intOf]
end Go.Proofs.Ytniippglkboieaa
