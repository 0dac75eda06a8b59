/-
  BitLen, Bit, shiftCount, Shl, Shr, digitAt.
-/
import Derived.Test.YtcoidcbbdibnaaaDoorDiv
namespace Go.Proofs.YtcoidcbbdibnaaaDoor
open Go.RowKit
set_option linter.unusedVariables false

theorem Wd_pow_k (t : Nat) : Wd ^ t = 2 ^ (64 * t) := by rw [Wd_pow, ← Nat.pow_mul]
theorem bl_top {N t : Nat} (hl : (dg Wd N).length = t + 1) (ht : t < (dg Wd N).length) : bl N = t * 64 + bl (dg Wd N)[t].toNat := by
  have e1 := vl_split Wd (dg Wd N) t (by omega)
  rw [vl_drop_step Wd _ t ht, List.drop_eq_nil_of_le (by omega), vl_dg Wd2, vl, Nat.mul_zero, Nat.add_zero] at e1
  have l1 := vl_lt ((Lim_dg Wd2 N).take t)
  rw [List.length_take, Nat.min_eq_left (by omega)] at l1
  have b1 := (Lim_dg Wd2 N).get ht
  have hy := dg_last Wd2 (n := N) (by omega)
  have h7 : (dg Wd N).length - 1 = t := by omega
  simp only [h7] at hy
  generalize (dg Wd N)[t] = y at *
  have hyp : 0 < bl y.toNat := bl_ge (k := 0) (by omega)
  have u1 := lt_bl y.toNat
  have u2 := le_of_bl (n := y.toNat) (k := bl y.toNat - 1) (by omega)
  generalize y.toNat = z at *
  generalize bl z = β at *
  refine bl_eq ?_ (fun _ => ?_)
  · rw [Nat.add_comm, Nat.pow_add, Nat.mul_comm t 64, ← Wd_pow_k]
    have h1 : Wd ^ t * (z + 1) ≤ Wd ^ t * 2 ^ β := Nat.mul_le_mul_left _ u1
    rw [Nat.mul_add, Nat.mul_one] at h1
    rw [Nat.mul_comm]
    omega
  · rw [show t * 64 + β - 1 = 64 * t + (β - 1) by omega, Nat.pow_add, ← Wd_pow_k]
    have h1 : Wd ^ t * 2 ^ (β - 1) ≤ Wd ^ t * z := Nat.mul_le_mul_left _ u2
    omega

set_option maxHeartbeats 1000000 in
theorem BitLen_any (A : Option Addr) (n c : Nat) (l : List Int) (w : World) (B : Nat) (h : Rd w B A n c l) :
    Calls Tryd.prog 69 #[.slice A n c] w fun e w' => e = .returned (.int .i64 (bl (vl Wd l))) ∧ w = w' := by
  generalize hN : vl Wd l = N at *
  have HN := Lib.hid hN; clear hN
  go_enter Tryd.func69, Tryd.ntmps69
  go_wp2_with fail
  refine (trim_any _ _ _ _ _ _ h).mono ?_
  rintro e w' ⟨A', n', c', rfl, hrd, rfl⟩
  rw [HN.out] at hrd
  have hcap := hrd.cap
  have hbig := hrd.big
  have H := Lib.hid hrd.len
  rcases n' with _ | t
  · have : N = 0 := (dg_eq_nil Wd2).1 (List.eq_nil_of_length_eq_zero H.out)
    subst this
    go_wp2
    go_ret
    exact ⟨ret_i64 (by rw [bl_zero]; rfl), rfl⟩
  · obtain ⟨b, of, rfl, hb, hc⟩ := hrd.at_ (by omega)
    have htl : t < (dg Wd N).length := by have := H.out; omega
    have hct := hc t htl
    have by_ : Lm (dg Wd N)[t] := (Lim_dg Wd2 N).get htl
    have hv := bl_top H.out htl
    clear hc
    generalize (dg Wd N)[t] = y at *
    have hbl := bl_limb by_
    have HV := Lib.hid hv; clear hv
    have hb0 : ((↑(t + 1) : Int) == 0) = false := by simp; omega
    go_wp2_with fail
    refine (limbLen_any y _ by_).mono ?_
    rintro e w' ⟨rfl, rfl⟩
    generalize hβ : bl y.toNat = β at *
    have Hβ := Lib.hid hβ; clear hβ
    go_wp2
    go_ret
    exact ⟨ret_i64 (by rw [HV.out]; simp), rfl⟩

/-- The number of places that counts. -/
def sc (n : Int) : Nat := (min (max n 0) 8192).toNat
theorem sc_le (n : Int) : sc n ≤ 8192 := by unfold sc; omega

set_option maxHeartbeats 400000 in
theorem shiftCount_any (n : Int) (w : World) : Calls Tryd.prog 90 #[.int .i64 n] w fun e w' => e = .returned (.int .i64 (sc n)) ∧ w = w' := by
  rcases (show n < 0 ∨ (0 ≤ n ∧ n ≤ 8192) ∨ 8192 < n by omega) with h | h | h
  · have e : sc n = 0 := by unfold sc; omega
    go_enter Tryd.func90, Tryd.ntmps90
    go_wp2
    go_ret
    exact ⟨ret_i64 (by rw [e]; rfl), rfl⟩
  · have e : (sc n : Int) = n := by unfold sc; omega
    have HE := Lib.hid e; clear e
    obtain ⟨h1, h2⟩ := h
    go_enter Tryd.func90, Tryd.ntmps90
    go_wp2
    all_goals go_ret
    all_goals exact ⟨ret_i64 (by rw [HE.out]), rfl⟩
  · have e : sc n = 8192 := by unfold sc; omega
    go_enter Tryd.func90, Tryd.ntmps90
    go_wp2
    go_ret
    exact ⟨ret_i64 (by rw [e]; rfl), rfl⟩

theorem shl_val {la W' : List Int} {q r s : Nat} (hs : s = 64 * q + r) (hv : vl Wd W' = vl Wd la * 2 ^ r) : vl Wd (List.replicate q 0 ++ (W' ++ [])) = vl Wd la * 2 ^ s := by
  rw [vl3, vl_replicate, hv, hs, Nat.pow_add, ← Wd_pow_k]
  simp [vl]
  rw [Nat.mul_left_comm]
theorem shr_val {N q r s : Nat} (hs : s = 64 * q + r) (hq : q ≤ (dg Wd N).length) : vl Wd ((dg Wd N).drop q) / 2 ^ r = N / 2 ^ s := by
  have e1 := vl_split Wd (dg Wd N) q hq
  rw [vl_dg Wd2] at e1
  have l1 := vl_lt ((Lim_dg Wd2 N).take q)
  rw [List.length_take, Nat.min_eq_left hq] at l1
  have e2 : N / Wd ^ q = vl Wd ((dg Wd N).drop q) := by
    rw [e1, Nat.add_mul_div_left _ _ (Nat.pow_pos Wd0), Nat.div_eq_of_lt l1, Nat.zero_add]
    rw [← e1]
  rw [hs, Nat.pow_add, ← Nat.div_div_eq_div_mul, ← Wd_pow_k, e2]

set_option maxHeartbeats 1000000 in
theorem Shl_any (A : Option Addr) (n c : Nat) (l : List Int) (i : Int) (w : World) (h : Rd w w.heap.size A n c l) (hn : n ≤ 1099511627776) :
    Calls Tryd.prog 67 #[.slice A n c, .int .i64 i] w (Out w (vl Wd l * 2 ^ sc i)) := by
  have hNn := dg_len_le Wd2 (h.len ▸ vl_lt h.lim : vl Wd l < Wd ^ n)
  have hsc := sc_le i
  generalize hN : vl Wd l = N at *
  have HN := Lib.hid hN; clear hN
  go_enter Tryd.func67, Tryd.ntmps67
  go_wp2_with fail
  refine (trim_any _ _ _ _ _ _ h).mono ?_
  rintro e w' ⟨A', n', c', rfl, hrd, rfl⟩
  rw [HN.out] at hrd
  go_wp2_with fail
  refine (shiftCount_any i _).mono ?_
  rintro e w' ⟨rfl, rfl⟩
  generalize sc i = s at *
  have hcap := hrd.cap
  have hbig := hrd.big
  have H := Lib.hid hrd.len
  have hs1 : n' ≤ 1099511627776 := by have := H.out; omega
  by_cases h0 : n' = 0
  · subst h0
    have : N = 0 := (dg_eq_nil Wd2).1 (List.eq_nil_of_length_eq_zero H.out)
    subst this
    go_wp2
    go_ret
    exact ⟨_, _, _, rfl, by rw [Nat.zero_mul, dg_zero]; exact Rd.nil, Below.refl _ _⟩
  · have hb0 : ((n' : Int) == 0) = false := by simp; omega
    obtain ⟨q, hq⟩ : ∃ q, q = s / 64 := ⟨_, rfl⟩
    obtain ⟨r, hr⟩ : ∃ r, r = s % 64 := ⟨_, rfl⟩
    have eq1 : (s : Int) / 64 = q := by omega
    have eq2 : (s : Int) % 64 = r := by omega
    have hr63 : r ≤ 63 := by omega
    have hq128 : q ≤ 128 := by omega
    have hsq : s = 64 * q + r := by omega
    obtain ⟨T, hT⟩ : ∃ T, T = q + n' + 1 := ⟨_, rfl⟩
    have eT : (q : Int) + n' + 1 = T := by omega
    have hqT : q ≤ T := by omega
    have hqT2 : ¬ T = q := by omega
    have HT := Lib.hid hT; have HS := Lib.hid hsq
    clear hq hr hsq hT
    go_wp2_with (at_make; refine wp_make64 rfl _ _ rfl T _ _ rfl rfl (by omega) (by omega) (by have := HT.out; omega) ?_; intro w1 hbk1 hb1)
    have hbk2 : Bk w1 w.heap.size (List.replicate q 0 ++ (List.replicate (n' + 1) 0 ++ [])) := by
      rw [List.append_nil, List.replicate_append_replicate, show q + (n' + 1) = T by have := HT.out; omega]; exact hbk1
    refine (shiftUp_any w.heap.size q (T - q) (T - q) A' n' c' (List.replicate q 0) (List.replicate (n' + 1) 0) [] _ r w1 w.heap.size (by simp) (by have := HT.out; simp; omega) (Lim_replicate Wd0 _) (by have := HT.out; omega) hbk2 (hrd.below hb1) (Nat.le_refl _) (by have := HT.out; omega) hr63).mono ?_
    rintro e w3 ⟨W', rfl, q1, q2, q3, q4, q5⟩
    have hb3 := grow_below hb1 hb1.size q5 (Nat.le_refl _)
    have hval := shl_val HS.out q3
    rw [vl_dg Wd2] at hval
    have hlim : Lim Wd (List.replicate q 0 ++ (W' ++ [])) := Lim_append.2 ⟨Lim_replicate Wd0 _, Lim_append.2 ⟨q2, Lim_nil _⟩⟩
    have hw3 := q4.whole (B := w3.heap.size) (n := T) (c := T) q4.lt (by have := HT.out; simp [q1]; omega) (Nat.le_refl _) (by have := HT.out; omega) hlim
    have HV := Lib.hid hval
    clear hval q1 q3 q4
    go_wp2_with fail
    refine (trim_any _ _ _ _ _ _ hw3).mono ?_
    rintro e w' ⟨A5, n5, c5, rfl, hrd5, rfl⟩
    go_wp2
    go_ret
    exact ⟨_, _, _, rfl, by rw [HV.out] at hrd5; exact hrd5, hb3⟩

set_option maxHeartbeats 1000000 in
theorem Shr_any (A : Option Addr) (n c : Nat) (l : List Int) (i : Int) (w : World) (h : Rd w w.heap.size A n c l) (hn : n ≤ 1099511627776) :
    Calls Tryd.prog 97 #[.slice A n c, .int .i64 i] w (Out w (vl Wd l / 2 ^ sc i)) := by
  have hNn := dg_len_le Wd2 (h.len ▸ vl_lt h.lim : vl Wd l < Wd ^ n)
  have hsc := sc_le i
  generalize hN : vl Wd l = N at *
  have HN := Lib.hid hN; clear hN
  go_enter Tryd.func97, Tryd.ntmps97
  go_wp2_with fail
  refine (trim_any _ _ _ _ _ _ h).mono ?_
  rintro e w' ⟨A', n', c', rfl, hrd, rfl⟩
  rw [HN.out] at hrd
  go_wp2_with fail
  refine (shiftCount_any i _).mono ?_
  rintro e w' ⟨rfl, rfl⟩
  generalize sc i = s at *
  have hcap := hrd.cap
  have hbig := hrd.big
  have H := Lib.hid hrd.len
  have hs1 : n' ≤ 1099511627776 := by have := H.out; omega
  obtain ⟨q, hq⟩ : ∃ q, q = s / 64 := ⟨_, rfl⟩
  obtain ⟨r, hr⟩ : ∃ r, r = s % 64 := ⟨_, rfl⟩
  have eq1 : (s : Int) / 64 = q := by omega
  have eq2 : (s : Int) % 64 = r := by omega
  have hr63 : r ≤ 63 := by omega
  have hq128 : q ≤ 128 := by omega
  have hsq : s = 64 * q + r := by omega
  have HS := Lib.hid hsq
  clear hq hr hsq
  by_cases h0 : n' ≤ q
  · have hz : N / 2 ^ s = 0 := by
      refine Nat.div_eq_of_lt ?_
      have h1 : N < Wd ^ n' := dg_lt Wd2 (Nat.le_of_eq H.out)
      have h2 : 2 ^ (64 * n') ≤ 2 ^ s := Nat.pow_le_pow_right (by omega) (by have := HS.out; omega)
      rw [Wd_pow_k] at h1
      omega
    have HZ := Lib.hid hz; clear hz
    go_wp2
    go_ret
    exact ⟨_, _, _, rfl, by rw [HZ.out, dg_zero]; exact Rd.nil, Below.refl _ _⟩
  · obtain ⟨b, of, rfl, hdr⟩ := hrd.drop (m := q) (by omega)
    have hval := shr_val (N := N) (q := q) (r := r) HS.out (by have := H.out; omega)
    have HV := Lib.hid hval; clear hval
    obtain ⟨T, hT⟩ : ∃ T, T = n' - q := ⟨_, rfl⟩
    have eT : (n' : Int) - q = T := by omega
    have eT2 : n' - q = T := by omega
    have hqc : ¬ c' = q := by omega
    have hqn : q ≤ n' := by omega
    rw [eT2] at hdr
    have HT := Lib.hid hT; clear hT
    go_wp2_with (at_make; refine wp_make64 rfl _ _ rfl T _ _ rfl rfl (by omega) (by omega) (by omega) ?_; intro w1 hbk1 hb1)
    refine (shiftDown_any w.heap.size 0 T T (some ⟨b, of + q, none⟩) (c' - q) [] (List.replicate T 0) [] _ r w1 w.heap.size rfl (by simp) (Lim_replicate Wd0 _) (by omega) (by simpa using hbk1) (hdr.below hb1) (Nat.le_refl _) hr63).mono ?_
    rintro e w3 ⟨W', rfl, q1, q2, q3, q4, q5⟩
    have hb3 := grow_below hb1 hb1.size q5 (Nat.le_refl _)
    rw [HV.out] at q3
    simp only [List.nil_append, List.append_nil] at q4
    have hw3 := q4.whole (B := w3.heap.size) (n := T) (c := T) q4.lt (by rw [q1]; simp) (Nat.le_refl _) (by omega) q2
    have HV := Lib.hid q3
    clear q1 q3 q4
    go_wp2_with fail
    refine (trim_any _ _ _ _ _ _ hw3).mono ?_
    rintro e w' ⟨A5, n5, c5, rfl, hrd5, rfl⟩
    go_wp2
    go_ret
    exact ⟨_, _, _, rfl, by rw [HV.out] at hrd5; exact hrd5, hb3⟩
end Go.Proofs.YtcoidcbbdibnaaaDoor
