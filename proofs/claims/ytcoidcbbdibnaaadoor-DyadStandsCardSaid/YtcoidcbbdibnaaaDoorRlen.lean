/-
  The document's answer: BitLen.
-/
import Derived.Test.YtcoidcbbdibnaaaDoorLimbs
namespace Go.Proofs.YtcoidcbbdibnaaaDoor
open Go.RowKit
set_option linter.unusedVariables false

theorem Hb_pow_k (t : Nat) : Hb ^ t = 2 ^ (32 * t) := by rw [show Hb = 2 ^ 32 by decide, ← Nat.pow_mul]
theorem bl_topH {N t : Nat} (hl : (dg Hb N).length = t + 1) (ht : t < (dg Hb N).length) : bl N = 32 * t + bl (dg Hb N)[t].toNat := by
  have e1 := vl_split Hb (dg Hb N) t (by omega)
  rw [vl_drop_step Hb _ t ht, List.drop_eq_nil_of_le (by omega), vl_dg Hb2, vl, Nat.mul_zero, Nat.add_zero] at e1
  have l1 := vl_lt ((Lim_dg Hb2 N).take t)
  rw [List.length_take, Nat.min_eq_left (by omega)] at l1
  have b1 := (Lim_dg Hb2 N).get ht
  have hy := dg_last Hb2 (n := N) (by omega)
  have h7 : (dg Hb N).length - 1 = t := by omega
  simp only [h7] at hy
  generalize (dg Hb N)[t] = y at *
  have hyp : 0 < bl y.toNat := bl_ge (k := 0) (by omega)
  have u1 := lt_bl y.toNat
  have u2 := le_of_bl (n := y.toNat) (k := bl y.toNat - 1) (by omega)
  generalize y.toNat = z at *
  generalize bl z = β at *
  refine bl_eq ?_ (fun _ => ?_)
  · rw [Nat.pow_add, ← Hb_pow_k]
    have h1 : Hb ^ t * (z + 1) ≤ Hb ^ t * 2 ^ β := Nat.mul_le_mul_left _ u1
    rw [Nat.mul_add, Nat.mul_one] at h1
    omega
  · rw [show 32 * t + β - 1 = 32 * t + (β - 1) by omega, Nat.pow_add, ← Hb_pow_k]
    have h1 : Hb ^ t * 2 ^ (β - 1) ≤ Hb ^ t * z := Nat.mul_le_mul_left _ u2
    omega
theorem limb_bitsH {l : List Int} (hl : Lim Hb l) {q r e : Nat} (hq : q < l.length) (hr : r + e ≤ 32) : l[q].toNat / 2 ^ r % 2 ^ e = vl Hb l / 2 ^ (32 * q + r) % 2 ^ e := by
  have e1 := vl_split Hb l q (by omega)
  rw [vl_drop_step Hb l q hq] at e1
  have l1 := vl_lt (hl.take q)
  rw [List.length_take, Nat.min_eq_left (by omega)] at l1
  generalize l[q].toNat = x at *
  generalize vl Hb (l.drop (q + 1)) = m at *
  have e2 : vl Hb l / Hb ^ q = x + Hb * m := by
    rw [e1, Nat.add_mul_div_left _ _ (Nat.pow_pos Hb0), Nat.div_eq_of_lt l1, Nat.zero_add]
  rw [Nat.pow_add, ← Nat.div_div_eq_div_mul, ← Hb_pow_k, e2]
  have e3 : Hb * m = 2 ^ r * (2 ^ (32 - r) * m) := by
    rw [← Nat.mul_assoc, ← Nat.pow_add, show r + (32 - r) = 32 by omega]; rfl
  have e4 : 2 ^ (32 - r) * m = 2 ^ e * (2 ^ (32 - r - e) * m) := by
    rw [← Nat.mul_assoc, ← Nat.pow_add, show e + (32 - r - e) = 32 - r by omega]
  rw [e3, Nat.add_mul_div_left _ _ (Nat.two_pow_pos r), e4, Nat.add_mul_mod_self_left]
theorem half_step {x : Int} (h0 : 0 < x) (h1 : x < 18446744073709551616) : IntKind.u64.wrap (x.tdiv 2) = x / 2 ∧ bl (x / 2).toNat + 1 = bl x.toNat := by
  constructor
  · rw [Int.tdiv_eq_ediv_of_nonneg (show 0 ≤ x by omega), wrap_u64]; omega
  · have := bl_div (n := x.toNat) (s := 1)
    have e : (x / 2).toNat = x.toNat / 2 ^ 1 := by omega
    rw [e]
    by_cases h2 : 2 ≤ x.toNat
    · exact this (by rw [Nat.pow_one]; exact h2)
    · have hx : x.toNat = 1 := by omega
      rw [hx, Nat.pow_one, bl_one]
      exact congrArg (· + 1) bl_zero

set_option maxHeartbeats 1000000 in
theorem RBitLen_any (A : Option Addr) (n c : Nat) (l : List Int) (w : World) (h : Rd w w.heap.size A n c l) (hn : n ≤ 549755813888) :
    Calls Tryd.prog 77 #[.slice A n c] w fun e w' => e = .returned (.int .i64 (bl (vl Wd l))) ∧ Below w.heap.size w w' := by
  have hs := Sm.of h hn
  generalize hN : vl Wd l = N at *
  have HN := Lib.hid hN; clear hN
  go_enter Tryd.func77, Tryd.ntmps77
  go_wp2_with fail
  refine (Digits_any _ _ _ _ _ h (by omega)).mono ?_
  rintro e w1 ⟨A1, n1, c1, rfl, g1, hb1⟩
  rw [HN.out] at g1
  have hz := g1.smallH hs
  clear hs
  have H := Lib.hid g1.len
  rcases n1 with _ | t
  · have : N = 0 := (dg_eq_nil Hb2).1 (List.eq_nil_of_length_eq_zero H.out)
    subst this
    go_wp2
    go_ret
    exact ⟨ret_i64 (by rw [bl_zero]; rfl), hb1⟩
  · obtain ⟨b, of, rfl, hb, hc⟩ := g1.at_ (by omega)
    have htl : t < (dg Hb N).length := by have := H.out; omega
    have hct := hc t htl
    have by_ := dig_lt ((Lim_dg Hb2 N).get htl)
    have hv := bl_topH H.out htl
    clear hc
    generalize (dg Hb N)[t] = y at *
    have hbl : bl y.toNat ≤ 32 := bl_le (by omega)
    have HV := Lib.hid hv; clear hv
    have hb0 : ((↑(t + 1) : Int) == 0) = false := by simp; omega
    go_wp2
    go_loop [4, 5] (fun nv xv => ∃ (m : Nat) (x : Int), nv = .int .i64 m ∧ xv = .int .u64 x ∧ 0 ≤ x ∧ x ≤ 4294967296 ∧ m ≤ 32 * t + 32 ∧ Hid (m + bl x.toNat = bl N)) (fun _ xv => (intOf xv).toNat)
    case atStart => exact ⟨32 * t, y, by go_num, rfl, by omega, by omega, by omega, HV.out.symm⟩
    case round =>
      obtain ⟨m, x, rfl, rfl, hx0, hx1, hm, HM⟩ := hrel
      by_cases hx : 0 < x
      · obtain ⟨e1, e2⟩ := half_step hx (by omega)
        obtain ⟨x', hx'⟩ : ∃ x', x / 2 = x' := ⟨_, rfl⟩
        rw [hx'] at e1 e2
        have hx3 : 0 ≤ x' ∧ x' < x := by omega
        have hmm := HM.out
        have hbb : m + 1 ≤ bl N := by omega
        have hbN : bl N ≤ 32 * t + 32 := by rw [HV.out]; omega
        have HE := Lib.hid e2; clear e2 hmm
        go_wp2
        go_round
        case rel => exact ⟨m + 1, x', by go_num, rfl, by omega, by omega, by omega, by show _ = _; have := HM.out; have := HE.out; omega⟩
        case measure => simp [intOf]; omega
      · obtain rfl : x = 0 := by omega
        have hmm := HM.out
        rw [show (0 : Int).toNat = 0 from rfl, bl_zero, Nat.add_zero] at hmm
        have HMM := Lib.hid hmm; clear hmm
        go_wp2
        go_ret
        exact ⟨ret_i64 (by rw [HMM.out]), hb1⟩

end Go.Proofs.YtcoidcbbdibnaaaDoor
