/-
  longDivide.
-/
import Derived.Test.YtcoidcbbdibnaaaDoorWin
namespace Go.Proofs.YtcoidcbbdibnaaaDoor
open Go.RowKit
set_option linter.unusedVariables false

/-- A division under way: of the quotient Q the limbs from j on stand; R is left. -/
def LdInv (V D : Nat) (n T : Nat) (j : Nat) (R Q : List Int) : Prop :=
  R.length = n + 1 ∧ Q.length = T ∧ Lim Wd R ∧ Lim Wd Q ∧ vl Wd R + D * (Wd ^ j * vl Wd (Q.drop j)) = V ∧ vl Wd R < D * Wd ^ j

theorem zeros_from {R : List Int} (hR : Lim Wd R) {j : Nat} (hv : vl Wd R < Wd ^ j) : vl Wd (R.drop j) = 0 := by
  rcases Nat.lt_or_ge R.length j with h | h
  · rw [List.drop_eq_nil_of_le (by omega)]; rfl
  · have h1 := vl_split Wd R j h
    rcases Nat.eq_zero_or_pos (vl Wd (R.drop j)) with h0 | h0
    · exact h0
    · exfalso
      have h2 : Wd ^ j * 1 ≤ Wd ^ j * vl Wd (R.drop j) := Nat.mul_le_mul_left _ h0
      rw [Nat.mul_one] at h2
      generalize Wd ^ j * vl Wd (R.drop j) = a at *
      generalize Wd ^ j = b at *
      omega

/-- The window that comes next. -/
theorem LdInv.win {V D n T k m : Nat} {R Q : List Int} (h : LdInv V D n T (k + 1) R Q) (hD : D < Wd ^ m) :
    vl Wd R = vl Wd (R.take k) + Wd ^ k * vl Wd ((R.drop k).take (m + 1)) ∧ vl Wd (R.drop (k + (m + 1))) = 0 ∧ (k ≤ n → vl Wd ((R.drop k).take (m + 1)) < Wd * D) := by
  obtain ⟨h1, h2, h3, h4, h5, h6⟩ := h
  have hz : vl Wd R < Wd ^ (k + (m + 1)) := by
    have h7 : D * Wd ^ (k + 1) ≤ Wd ^ m * Wd ^ (k + 1) := Nat.mul_le_mul_right _ (by omega)
    rw [← Nat.pow_add, show m + (k + 1) = k + (m + 1) by omega] at h7
    exact Nat.lt_of_lt_of_le h6 h7
  have hz2 := zeros_from h3 hz
  have e1 : vl Wd R = vl Wd (R.take k) + Wd ^ k * vl Wd ((R.drop k).take (m + 1)) := by
    have e1 := congrArg (vl Wd) (cut3 R k (m + 1))
    rw [vl3, hz2, Nat.mul_zero, Nat.add_zero] at e1
    rcases Nat.lt_or_ge R.length k with hk | hk
    · rw [List.drop_eq_nil_of_le (by omega)] at e1 ⊢
      simpa [vl] using e1
    · rw [show (R.take k).length = k by simp; omega] at e1
      exact e1
  refine ⟨e1, hz2, fun hk => ?_⟩
  have h8 : Wd ^ k * vl Wd ((R.drop k).take (m + 1)) < Wd ^ k * (Wd * D) := by
    rw [e1, Nat.pow_succ, Nat.mul_comm D, Nat.mul_assoc] at h6
    exact Nat.lt_of_le_of_lt (Nat.le_add_left _ _) h6
  exact Nat.lt_of_mul_lt_mul_left h8
theorem LdInv.next {V D n T k m : Nat} {R Q W' : List Int} (h : LdInv V D n T (k + 1) R Q) (hD : D < Wd ^ m) (hkm : k + (m + 1) ≤ n + 1) (hkT : k < T) (hW : W'.length = m + 1) (hWl : Lim Wd W')
    (hv : vl Wd W' = vl Wd ((R.drop k).take (m + 1)) % D) :
    LdInv V D n T k (R.take k ++ (W' ++ R.drop (k + (m + 1)))) (Q.set k ((vl Wd ((R.drop k).take (m + 1)) / D : Nat) : Int)) := by
  obtain ⟨e1, e2, e3⟩ := h.win hD
  have hk3 := e3 (by omega)
  obtain ⟨h1, h2, h3, h4, h5, h6⟩ := h
  have hD0 : 0 < D := by
    rcases Nat.eq_zero_or_pos D with h | h
    · rw [h] at h6; omega
    · exact h
  generalize hX : vl Wd ((R.drop k).take (m + 1)) = X at *
  have hq : X / D < Wd := (Nat.div_lt_iff_lt_mul hD0).2 hk3
  have hPl : (R.take k).length = k := by simp; omega
  have hr : vl Wd W' < D := by rw [hv]; exact Nat.mod_lt _ hD0
  have e4 : vl Wd (R.take k ++ (W' ++ R.drop (k + (m + 1)))) = vl Wd (R.take k) + Wd ^ k * vl Wd W' := by rw [vl3, e2, Nat.mul_zero, Nat.add_zero, hPl]
  have e5 : vl Wd ((Q.set k ((X / D : Nat) : Int)).drop k) = X / D + Wd * vl Wd (Q.drop (k + 1)) := by
    rw [vl_drop_step Wd _ k (by simp; omega), List.getElem_set_self, Int.toNat_natCast, List.drop_set_of_lt (by omega)]
  have hP := vl_lt (h3.take k)
  rw [hPl] at hP
  refine ⟨by simp [hW]; omega, by simpa using h2, Lim_append.2 ⟨h3.take k, Lim_append.2 ⟨hWl, h3.drop _⟩⟩, h4.set k ⟨Int.natCast_nonneg _, Int.ofNat_lt.2 hq⟩, ?_, ?_⟩
  · rw [e4, e5, ← h5, e1, hv]
    have e6 := Nat.mod_add_div X D
    have e7 : Wd ^ k * X = Wd ^ k * (X % D) + D * (Wd ^ k * (X / D)) := by
      rw [Nat.mul_left_comm D, ← Nat.mul_add, e6]
    rw [e7, Nat.mul_add (Wd ^ k), Nat.mul_add D, Nat.pow_succ, Nat.mul_assoc (Wd ^ k) Wd]
    omega
  · rw [e4]
    have h9 : Wd ^ k * (vl Wd W' + 1) ≤ Wd ^ k * D := Nat.mul_le_mul_left _ hr
    rw [Nat.mul_add, Nat.mul_one, Nat.mul_comm (Wd ^ k) D] at h9
    omega
theorem LdInv.start {N M s n m : Nat} {R : List Int} (hR : R.length = n + 1) (hRl : Lim Wd R) (hv : vl Wd R = N * 2 ^ s) (hN : N < Wd ^ n) (hM : Wd ^ (m - 1) ≤ M) (hmn : m ≤ n) (hm : 0 < m) :
    LdInv (N * 2 ^ s) (M * 2 ^ s) n (n - m + 1) (n - m + 1) R (List.replicate (n - m + 1) 0) := by
  refine ⟨hR, by simp, hRl, Lim_replicate Wd0 _, ?_, ?_⟩
  · rw [List.drop_eq_nil_of_le (by simp), vl, Nat.mul_zero, Nat.mul_zero, Nat.add_zero]; exact hv
  · rw [hv, Nat.mul_right_comm]
    refine Nat.mul_lt_mul_of_pos_right ?_ (Nat.two_pow_pos s)
    have h1 : Wd ^ (m - 1) * Wd ^ (n - m + 1) ≤ M * Wd ^ (n - m + 1) := Nat.mul_le_mul_right _ hM
    rw [← Nat.pow_add, show m - 1 + (n - m + 1) = n by omega] at h1
    omega
theorem LdInv.done {N M s n T : Nat} {R Q : List Int} (h : LdInv (N * 2 ^ s) (M * 2 ^ s) n T 0 R Q) : vl Wd Q = N / M ∧ vl Wd R = N % M * 2 ^ s := by
  obtain ⟨h1, h2, h3, h4, h5, h6⟩ := h
  rw [Nat.pow_zero, Nat.mul_one] at h6
  rw [Nat.pow_zero, Nat.one_mul, List.drop_zero, Nat.mul_comm (M * 2 ^ s)] at h5
  obtain ⟨r1, r2⟩ := dw_end h5 h6
  rw [Nat.mul_div_mul_right _ _ (Nat.two_pow_pos s)] at r1
  rw [Nat.mul_mod_mul_right] at r2
  exact ⟨r1, r2⟩
/-- The shifted divisor: its top limb is great, and above it is nothing. -/
theorem ld_divisor {lb W' : List Int} {t : Nat} (hb : Lim Wd lb) (hlb : lb.length = t + 1) (hy : 0 < lb[t].toNat) (hW : W'.length = t + 2) (hWl : Lim Wd W') (hv : vl Wd W' = vl Wd lb * 2 ^ (64 - bl lb[t].toNat)) :
    vl Wd (W'.take (t + 1)) = vl Wd lb * 2 ^ (64 - bl lb[t].toNat) ∧ vl Wd lb * 2 ^ (64 - bl lb[t].toNat) < Wd ^ (t + 1) ∧ (∃ h : t < (W'.take (t + 1)).length, 9223372036854775808 ≤ (W'.take (t + 1))[t]) ∧ Wd ^ t ≤ vl Wd lb := by
  have b1 := hb.get (show t < lb.length by omega)
  have e1 := vl_split Wd lb t (by omega)
  rw [vl_drop_step Wd lb t (by omega), List.drop_eq_nil_of_le (by omega), vl, Nat.mul_zero, Nat.add_zero] at e1
  have l1 := vl_lt (hb.take t)
  rw [List.length_take, Nat.min_eq_left (by omega)] at l1
  have hbl : bl lb[t].toNat ≤ 64 := bl_limb b1
  have hbp : 0 < bl lb[t].toNat := bl_ge (k := 0) (by omega)
  have u1 := lt_bl lb[t].toNat
  have u2 := le_of_bl (n := lb[t].toNat) (k := bl lb[t].toNat - 1) (by omega)
  generalize lb[t].toNat = y at *
  generalize bl y = β at *
  have hs : 2 ^ β * 2 ^ (64 - β) = Wd := by rw [← Nat.pow_add, show β + (64 - β) = 64 by omega]; exact Wd_pow.symm
  have hs2 : 2 ^ (β - 1) * 2 ^ (64 - β) = 9223372036854775808 := by rw [← Nat.pow_add, show β - 1 + (64 - β) = 63 by omega]
  have hlt : vl Wd lb * 2 ^ (64 - β) < Wd ^ (t + 1) := by
    have h1 : vl Wd lb < Wd ^ t * 2 ^ β := by
      have h2 : Wd ^ t * (y + 1) ≤ Wd ^ t * 2 ^ β := Nat.mul_le_mul_left _ u1
      rw [Nat.mul_add, Nat.mul_one] at h2
      omega
    have h3 : vl Wd lb * 2 ^ (64 - β) < Wd ^ t * 2 ^ β * 2 ^ (64 - β) := Nat.mul_lt_mul_of_pos_right h1 (Nat.two_pow_pos _)
    rw [Nat.mul_assoc, hs, ← Nat.pow_succ] at h3
    exact h3
  have hz := zeros_from hWl (j := t + 1) (by rw [hv]; exact hlt)
  have e2 := vl_split Wd W' (t + 1) (by omega)
  rw [hz, Nat.mul_zero, Nat.add_zero] at e2
  refine ⟨by rw [← e2]; exact hv, hlt, ⟨by simp; omega, ?_⟩, ?_⟩
  · have hlen : (W'.take (t + 1)).length = t + 1 := by simp; omega
    have e3 := vl_split Wd (W'.take (t + 1)) t (by omega)
    rw [vl_drop_step Wd _ t (by omega), List.drop_eq_nil_of_le (by omega), vl, Nat.mul_zero] at e3
    simp only [Nat.add_zero] at e3
    have b2 := (hWl.take (t + 1)).get (show t < (W'.take (t + 1)).length by omega)
    have l2 := vl_lt ((hWl.take (t + 1)).take t)
    rw [List.length_take, Nat.min_eq_left (by omega)] at l2
    have h4 : Wd ^ t * 9223372036854775808 ≤ vl Wd (W'.take (t + 1)) := by
      rw [← e2, hv, ← hs2, ← Nat.mul_assoc]
      refine Nat.mul_le_mul_right _ ?_
      have : Wd ^ t * 2 ^ (β - 1) ≤ Wd ^ t * y := Nat.mul_le_mul_left _ u2
      omega
    generalize (W'.take (t + 1))[t] = z at *
    have h5 : Wd ^ t * 9223372036854775808 < Wd ^ t * (z.toNat + 1) := by rw [Nat.mul_add, Nat.mul_one]; omega
    have := Nat.lt_of_mul_lt_mul_left h5
    omega
  · have : Wd ^ t * 1 ≤ Wd ^ t * y := Nat.mul_le_mul_left _ hy
    rw [Nat.mul_one] at this
    omega
theorem ld_divisor' {lb : List Int} {t : Nat} {y : Int} (hb : Lim Wd lb) (hlb : lb.length = t + 1) (htl : t < lb.length) (hye : lb[t] = y) (hy : 0 < y.toNat) : ∀ W' : List Int, W'.length = t + 2 → Lim Wd W' → vl Wd W' = vl Wd lb * 2 ^ (64 - bl y.toNat) →
    vl Wd (W'.take (t + 1)) = vl Wd lb * 2 ^ (64 - bl y.toNat) ∧ vl Wd lb * 2 ^ (64 - bl y.toNat) < Wd ^ (t + 1) ∧ (∃ h : t < (W'.take (t + 1)).length, 9223372036854775808 ≤ (W'.take (t + 1))[t]) ∧ Wd ^ t ≤ vl Wd lb := by
  subst hye
  exact fun W' a b c => ld_divisor hb hlb hy a b c

def LdRel (w : World) (g1 g2 g3 : Nat) (Dl : List Int) (V D n T j : Nat) (wr : World) : Prop :=
  ∃ R Q, LdInv V D n T j R Q ∧ Bk wr g1 Dl ∧ Bk wr g2 R ∧ Bk wr g3 Q ∧ Below w.heap.size w wr
def LdPost (w : World) (N M : Nat) (e : Ending) (w' : World) : Prop :=
  ∃ A n c A2 n2 c2 lq lr, e = .returned (.tuple #[.slice A n c, .slice A2 n2 c2]) ∧ Rd w' w'.heap.size A n c lq ∧ Rd w' w'.heap.size A2 n2 c2 lr ∧ vl Wd lq = N / M ∧ vl Wd lr = N % M ∧ Below w.heap.size w w'

set_option maxHeartbeats 2000000 in
theorem longDivide_any (A A2 : Option Addr) (n c m c2 : Nat) (la lb : List Int) (w : World) (h : Rd w w.heap.size A n c la) (h2 : Rd w w.heap.size A2 m c2 lb) (hn : n ≤ 1099511627776) (hmn : m ≤ n) (t : Nat) (ht : m = t + 1)
    (htl : t < lb.length) (hy : 0 < lb[t].toNat) :
    Calls Tryd.prog 111 #[.slice A n c, .slice A2 m c2] w (LdPost w (vl Wd la) (vl Wd lb)) := by
  have hlb := h2.len
  have hla := h.len
  have hN := vl_lt h.lim
  rw [hla] at hN
  obtain ⟨b2, of2, rfl, hb2, hc2⟩ := h2.at_ (by omega)
  have hc1 := hc2 t htl
  have by_ : Lm lb[t] := h2.lim.get htl
  have hbl := bl_limb by_
  have hbp : 0 < bl lb[t].toNat := bl_ge (k := 0) (by omega)
  generalize hye : lb[t] = y at *
  have hdiv := ld_divisor' h2.lim (by omega : lb.length = t + 1) htl hye hy
  have Hy := Lib.hid hye; clear hye hc2
  obtain ⟨s, hs⟩ : ∃ s, s = 64 - bl y.toNat := ⟨_, rfl⟩
  have hs63 : s ≤ 63 := by omega
  have e0 : (64 : Int) - (bl y.toNat : Int) = s := by omega
  rw [← hs] at hdiv
  have e1 : (m : Int) - 1 = t := by omega
  have hi2 : (t : Int) < m := by omega
  have hmt : m = t + 1 := ht
  have HN := Lib.hid hN; have HLA := Lib.hid hla; have HLB := Lib.hid hlb; have HT := Lib.hid ht; have HS := Lib.hid hs; have HD := Lib.hid hdiv
  clear hN hla hlb ht hs hdiv hy hbl hbp hmt Hy
  obtain ⟨T, hT⟩ : ∃ T, T = n - m + 1 := ⟨_, rfl⟩
  have eT : (n : Int) - m + 1 = T := by omega
  have hTn : T ≤ 1099511627777 := by omega
  have HTT := Lib.hid hT; clear hT
  go_enter Tryd.func111, Tryd.ntmps111
  go_wp2_with fail
  refine (limbLen_any y _ by_).mono ?_
  rintro e w' ⟨rfl, rfl⟩
  go_wp2_with (at_make; refine wp_make64 rfl _ _ rfl (m + 1) _ _ rfl rfl (by simp) (by simp) (by omega) ?_; intro w1 hbk1 hb1)
  refine (shiftUp_any w.heap.size 0 (m + 1) (m + 1) (some ⟨b2, of2, none⟩) m c2 [] (List.replicate (m + 1) 0) [] lb s w1 w.heap.size rfl (by simp) (Lim_replicate Wd0 _) (by omega) (by simpa using hbk1) (h2.below hb1) (Nat.le_refl _) rfl hs63).mono ?_
  rintro e w2 ⟨Dl, rfl, d1, d2, d3, d4, d5⟩
  have hb2' := grow_below hb1 hb1.size d5 (Nat.le_refl _)
  have d1' : Dl.length = t + 2 := by rw [d1]; have := HT.out; simp; omega
  obtain ⟨v1, v2, ⟨v3, v4⟩, v5⟩ := HD.out Dl d1' d2 d3
  simp only [List.nil_append, List.append_nil] at d4
  have HV1 := Lib.hid v1; have HV2 := Lib.hid v2; have HV5 := Lib.hid v5; have HD1 := Lib.hid d1'
  have HV3 := Lib.hid (⟨v3, v4⟩ : ∃ h : t < (Dl.take (t + 1)).length, 9223372036854775808 ≤ (Dl.take (t + 1))[t])
  clear d1 d1' d3 v1 v2 v3 v4 v5 HD hbk1 hb1 d5
  have hg12 := d4.lt
  go_wp2_with (at_make; refine wp_make64 rfl _ _ rfl (n + 1) _ _ rfl rfl (by simp) (by simp) (by omega) ?_; intro w3 hbk3 hb3)
  have hb3' := hb2'.trans (hb3.mono hb2'.size)
  have d43 := d4.below hb3 hg12
  refine (shiftUp_any w2.heap.size 0 (n + 1) (n + 1) A n c [] (List.replicate (n + 1) 0) [] la s w3 w.heap.size rfl (by simp) (Lim_replicate Wd0 _) (by omega) (by simpa using hbk3) (h.below hb3') hb2'.size rfl hs63).mono ?_
  rintro e w4 ⟨R0, rfl, r1, r2, r3, r4, r5⟩
  simp only [List.nil_append, List.append_nil] at r4
  have hb4 := grow_below hb3' hb3'.size r5 hb2'.size
  have d44 := d43.grown r5 (by intro e; injection e with e; omega)
  have hs4 := r5.size
  have hg24 := r4.lt
  have HR1 := Lib.hid (show R0.length = n + 1 by rw [r1]; simp); have HR3 := Lib.hid r3
  clear r1 r3 hbk3 d43 r5 hb3 hb3' hb2' d4
  go_wp2_with (at_make; refine wp_make64 rfl _ _ rfl T _ _ rfl rfl (by omega) (by omega) (by omega) ?_; intro w5 hbk5 hb5)
  have hb5' := hb4.trans (hb5.mono hb4.size)
  have d45 := d44.below hb5 d44.lt
  have r45 := r4.below hb5 hg24
  have hg35 := hbk5.lt
  have hinit : LdRel w w.heap.size w2.heap.size w4.heap.size Dl (vl Wd la * 2 ^ s) (vl Wd lb * 2 ^ s) n T T w5 := by
    refine ⟨R0, List.replicate T 0, ?_, d45, r45, hbk5, hb5'⟩
    have := LdInv.start (m := m) HR1.out r2 HR3.out HN.out (by have := HT.out; rw [this]; exact HV5.out) hmn (by have := HT.out; omega)
    rw [← HTT.out] at this
    exact this
  clear hb5' d45 r45 hbk5 d44 r4 hb4 hb5 r2
  generalize hg2 : w2.heap.size = g2 at *
  generalize hg3 : w4.heap.size = g3 at *
  have Hg2 := Lib.hid hg2; have Hg3 := Lib.hid hg3; clear hg2 hg3
  have hg23 : g2 < g3 := hg24
  clear hg24 hs4
  go_loopw [10, 11, 12, 51] (fun _ _ _ i wr => ∃ k : Nat, k ≤ T ∧ i = .int .i64 k ∧ LdRel w w.heap.size g2 g3 Dl (vl Wd la * 2 ^ s) (vl Wd lb * 2 ^ s) n T (T - k) wr) (fun _ _ _ i _ => T - (intOf i).toNat)
  case atStart => exact ⟨0, Nat.zero_le _, rfl, hinit⟩
  case round =>
    clear hinit
    obtain ⟨i, hi, rfl, R, Q, hinv, k1, k2, k3, k4⟩ := hrel
    by_cases hiT : i < T
    · obtain ⟨k, hk⟩ : ∃ k, T = k + 1 + i := ⟨T - 1 - i, by omega⟩
      have hik : T - i = k + 1 := by omega
      have hik2 : T - (i + 1) = k := by omega
      rw [hik] at hinv
      obtain ⟨E, hE⟩ : ∃ E, E = k + m + 1 := ⟨_, rfl⟩
      have hRl := hinv.1
      have hQl := hinv.2.1
      have eK : (T : Int) - 1 - i = k := by omega
      have eE : (k : Int) + m + 1 = E := by omega
      have hkE : k ≤ E := by omega
      have hEn : E ≤ n + 1 := by have := HTT.out; omega
      have hEk : ¬ E = k := by omega
      have hkT : k < T := by omega
      have HV2' : vl Wd lb * 2 ^ s < Wd ^ m := by have := HT.out; rw [this]; exact HV2.out
      obtain ⟨u1, u2, u3⟩ := hinv.win HV2'
      have hlk : (R.take k).length = k := by simp; omega
      have hlW : ((R.drop k).take (m + 1)).length = E - k := by simp; omega
      have hlW2 : ((R.drop k).take (m + 1)).length = m + 1 := by omega
      have hR4 : Bk wr g2 (R.take k ++ ((R.drop k).take (m + 1) ++ R.drop (k + (m + 1)))) := by rw [← cut3]; exact k2
      have hDr : Rd wr g2 (some ⟨w.heap.size, 0, none⟩) m (m + 1) (Dl.take (t + 1)) := by
        have := k1.rd (B := g2) (off := 0) (n := m) (c := m + 1) hg12 (by have := HD1.out; have := HT.out; omega) (by omega) (by omega) d2
        rw [List.drop_zero, HT.out] at this
        rw [HT.out]
        exact this
      have hsl : vl Wd ((R.drop k).take (m + 1)) < Wd * vl Wd (Dl.take (t + 1)) := by rw [HV1.out]; exact u3 (by omega)
      have hst := fun W' (a : W'.length = m + 1) (b : Lim Wd W') (c : vl Wd W' = _) => hinv.next HV2' (by omega) hkT a b c
      have hlimR := hinv.2.2.1
      have hkQ : k < Q.length := by omega
      have HA := Lib.hid hlk; have HB := Lib.hid hlW; have HC := Lib.hid hlW2; have HST := Lib.hid hst; have HQ := Lib.hid hQl; have HK := Lib.hid hik2; have HE := Lib.hid hE
      have HSL := Lib.hid hsl
      clear hlk hlW hlW2 hst hQl hik2 hE hik u1 u2 u3 hRl hsl hk HV2'
      obtain ⟨hv3, hv4⟩ := HV3.out
      go_wp2_with fail
      refine (divideWindow_any g2 k (E - k) (E - k) (some ⟨w.heap.size, 0, none⟩) m (m + 1) (R.take k) ((R.drop k).take (m + 1)) (R.drop (k + (m + 1))) (Dl.take (t + 1)) wr g2 HA.out HB.out ((hlimR.drop k).take _) (by omega) hR4 hDr (Nat.le_refl _) (by have := HE.out; omega) t HT.out hv3 hv4 HSL.out).mono ?_
      rintro e w6 ⟨W', rfl, q1, q2, q3, q4, q5⟩
      have hq := HST.out W' (by rw [q1]; exact HC.out) q2 (by rw [q3, HV1.out])
      rw [← HV1.out] at hq
      generalize hqv : vl Wd ((R.drop k).take (m + 1)) / vl Wd (Dl.take (t + 1)) = qv at *
      have Hqv := Lib.hid hqv
      have k36 := k3.grown q5 (by intro e; injection e with e; omega)
      have k16 := k1.grown q5 (by intro e; injection e with e; omega)
      have hcQ := k36.cell k hkQ
      have hfQ := k36.frozen k
      have hb6 := grow_below k4 k4.size q5 (by omega)
      have RR : LdRel w w.heap.size g2 g3 Dl (vl Wd la * 2 ^ s) (vl Wd lb * 2 ^ s) n T (T - (i + 1)) (w6.setCell ⟨g3, k, none⟩ (.int .u64 (qv : Int))) := by
        rw [HK.out]
        refine ⟨_, _, ?_, k16.far (by show w.heap.size ≠ g3; omega) _, q4.far (by show g2 ≠ g3; omega) _, k36.set k _, hb6.setCell (by show w.heap.size ≤ g3; omega) _⟩
        rw [HV1.out] at hq
        exact hq
      generalize hqk : Q[k] = zq at hcQ
      clear hq hqv q1 q3 q4 q5 k36 k16 hb6 k1 k2 k3 k4 hqk hR4 hDr hinv
      go_wp2
      go_roundw
      case rel => exact ⟨i + 1, by omega, by go_num, RR⟩
      case measure => simp [intOf]; omega
    · obtain rfl : T = i := by omega
      rw [Nat.sub_self] at hinv
      obtain ⟨u1, u2⟩ := hinv.done
      have hRl := hinv.1
      have hQl := hinv.2.1
      have hlimR := hinv.2.2.1
      have hlimQ := hinv.2.2.2.1
      have hlt6 := hinv.2.2.2.2.2
      rw [Nat.pow_zero, Nat.mul_one] at hlt6
      have hlt7 : vl Wd R < Wd ^ m := by have := HT.out; rw [this]; exact Nat.lt_trans hlt6 HV2.out
      have hz := zeros_from hlimR hlt7
      have hsp := vl_split Wd R m (by omega)
      rw [hz, Nat.mul_zero, Nat.add_zero] at hsp
      have H1 := Lib.hid u1; have H2 := Lib.hid u2; have H3 := Lib.hid hRl; have H4 := Lib.hid hQl; have H5 := Lib.hid hsp
      clear u1 u2 hRl hQl hlt6 hlt7 hz hsp hinv hi hiT
      go_wp2_with (at_make; refine wp_make64 rfl _ _ rfl m _ _ rfl rfl rfl rfl (by omega) ?_; intro w7 hbk7 hb7)
      have hb7' := k4.trans (hb7.mono k4.size)
      have k27 := k2.below hb7 k2.lt
      have k37 := k3.below hb7 k3.lt
      have hRr : Rd w7 wr.heap.size (some ⟨g2, 0, none⟩) m (n + 1) (R.take m) := by
        have := k27.rd (B := wr.heap.size) (off := 0) (n := m) (c := n + 1) k2.lt (by have := H3.out; omega) (by omega) (by omega) hlimR
        rw [List.drop_zero] at this
        exact this
      refine (shiftDown_any wr.heap.size 0 m m (some ⟨g2, 0, none⟩) (n + 1) [] (List.replicate m 0) [] (R.take m) s w7 wr.heap.size rfl (by simp) (Lim_replicate Wd0 _) (by omega) (by simpa using hbk7) hRr (Nat.le_refl _) hs63).mono ?_
      rintro e w8 ⟨lr, rfl, z1, z2, z3, z4, z5⟩
      simp only [List.nil_append, List.append_nil] at z4
      have hb8 := grow_below hb7' hb7'.size z5 k4.size
      have k38 := k37.grown z5 (by intro e; injection e with e; have := k3.lt; omega)
      have hv8 : vl Wd lr = vl Wd la % vl Wd lb := by rw [z3, ← H5.out, H2.out, Nat.mul_div_cancel _ (Nat.two_pow_pos s)]
      have hq8 := k38.whole (B := w8.heap.size) (n := T) (c := T) k38.lt H4.out (Nat.le_refl _) (by omega) hlimQ
      have hr8 := z4.whole (B := w8.heap.size) (n := m) (c := m) z4.lt (by rw [z1]; simp) (Nat.le_refl _) (by omega) z2
      have H8 := Lib.hid hv8
      clear hv8 z1 z3
      go_wp2
      go_ret2
      exact ⟨_, _, _, _, _, _, Q, lr, rfl, hq8, hr8, H1.out, H8.out, hb8⟩
end Go.Proofs.YtcoidcbbdibnaaaDoor
