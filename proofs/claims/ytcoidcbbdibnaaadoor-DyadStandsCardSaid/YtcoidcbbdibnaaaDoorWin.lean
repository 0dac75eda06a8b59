/-
  divideWindow.
-/
import Derived.Test.YtcoidcbbdibnaaaDoorHalf
namespace Go.Proofs.YtcoidcbbdibnaaaDoor
open Go.RowKit
set_option linter.unusedVariables false

theorem gqV_lm {hi lo d : Int} (hh : Lm hi) (hl : Lm lo) (hd : 9223372036854775808 ≤ d) : Lm (gqV hi lo d) := by
  unfold gqV
  split
  · rename_i h
    refine ⟨Int.ediv_nonneg (Int.add_nonneg (Int.mul_nonneg hh.1 (Int.natCast_nonneg _)) hl.1) (by omega), Int.ediv_lt_of_lt_mul (by omega) ?_⟩
    have h1 : (hi + 1) * (Wd : Int) ≤ d * (Wd : Int) := Int.mul_le_mul_of_nonneg_right (by omega) (Int.natCast_nonneg _)
    rw [Int.add_mul, Int.one_mul] at h1
    rw [Int.mul_comm (Wd : Int)]
    have := hl.2
    omega
  · unfold Lm; rw [Wd_eq]; omega
/-- The guess is not too small. -/
theorem gqV_ge {W lb : List Int} {t : Nat} (hW : Lim Wd W) (hb : Lim Wd lb) (hlb : lb.length = t + 1) (hlW : W.length = t + 2) (htop : 9223372036854775808 ≤ lb[t]) (hlt : vl Wd W < Wd * vl Wd lb) :
    vl Wd W / vl Wd lb ≤ (gqV W[t + 1] W[t] lb[t]).toNat := by
  have b1 := hW.get (show t + 1 < W.length by omega)
  have b2 := hW.get (show t < W.length by omega)
  have b3 := hb.get (show t < lb.length by omega)
  have e1 := vl_split Wd W t (by omega)
  rw [vl_drop_step Wd W t (by omega), vl_drop_step Wd W (t + 1) (by omega), List.drop_eq_nil_of_le (by omega)] at e1
  have e2 := vl_split Wd lb t (by omega)
  rw [vl_drop_step Wd lb t (by omega), List.drop_eq_nil_of_le (by omega)] at e2
  simp only [vl, Nat.mul_zero, Nat.add_zero] at e1 e2
  have l1 := vl_lt (hW.take t)
  rw [List.length_take, Nat.min_eq_left (by omega)] at l1
  generalize W[t + 1] = hi at *
  generalize W[t] = lo at *
  generalize lb[t] = d at *
  obtain ⟨hi, rfl⟩ := Int.eq_ofNat_of_zero_le b1.1
  obtain ⟨lo, rfl⟩ := Int.eq_ofNat_of_zero_le b2.1
  obtain ⟨d, rfl⟩ := Int.eq_ofNat_of_zero_le b3.1
  simp only [Int.toNat_natCast] at e1 e2
  have hq : vl Wd W / vl Wd lb < Wd := (Nat.div_lt_iff_lt_mul (by
    rcases Nat.eq_zero_or_pos (vl Wd lb) with h | h
    · rw [h] at hlt; omega
    · exact h)).2 hlt
  unfold gqV
  split
  · rename_i h
    have e3 : (((hi : Int) * (Wd : Int) + lo) / d).toNat = (hi * Wd + lo) / d := by
      rw [← Int.natCast_mul, ← Int.natCast_add, ← Int.natCast_ediv, Int.toNat_natCast]
    rw [e3, Nat.le_div_iff_mul_le (by omega)]
    have h1 := Nat.div_mul_le_self (vl Wd W) (vl Wd lb)
    generalize vl Wd W / vl Wd lb = q at *
    have h2 : q * (Wd ^ t * d) ≤ q * vl Wd lb := Nat.mul_le_mul_left _ (by omega)
    have h3 : Wd ^ t * (q * d) < Wd ^ t * (hi * Wd + lo + 1) := by
      have h4 : q * (Wd ^ t * d) = Wd ^ t * (q * d) := Nat.mul_left_comm ..
      have h5 : Wd ^ t * (hi * Wd + lo + 1) = Wd ^ t * (lo + Wd * hi) + Wd ^ t := by rw [Nat.mul_add _ _ 1, Nat.mul_one, Nat.mul_comm hi Wd, Nat.add_comm lo]
      omega
    have := Nat.lt_of_mul_lt_mul_left h3
    omega
  · omega

def DwPost (w : World) (g : Nat) (P W S lb : List Int) (e : Ending) (w' : World) : Prop :=
  ∃ W', e = .returned (.int .u64 ((vl Wd W / vl Wd lb : Nat) : Int)) ∧ W'.length = W.length ∧ Lim Wd W' ∧ vl Wd W' = vl Wd W % vl Wd lb ∧ Bk w' g (P ++ (W' ++ S)) ∧ w.grownBy w' (some g)
/-- Too much was taken away: gs + 1 times. -/
def DwRel (w : World) (g : Nat) (P W S lb : List Int) (gv : Value) (wr : World) : Prop :=
  ∃ Wk, ∃ gs : Nat, gv = .int .u64 gs ∧ gs < Wd ∧ Wk.length = W.length ∧ Lim Wd Wk ∧ vl Wd Wk + (gs + 1) * vl Wd lb = vl Wd W + Wd ^ W.length ∧ Bk wr g (P ++ (Wk ++ S)) ∧ w.grownBy wr (some g)
theorem dw_end {N D R q : Nat} (h : R + q * D = N) (hR : R < D) : q = N / D ∧ R = N % D := by
  have h1 : N = R + D * q := by rw [← h, Nat.mul_comm]
  rw [h1, Nat.add_mul_div_left _ _ (by omega), Nat.add_mul_mod_self_left, Nat.div_eq_of_lt hR, Nat.mod_eq_of_lt hR]
  omega

set_option maxHeartbeats 1000000 in
theorem divideWindow_any (g off n c : Nat) (A : Option Addr) (m cb : Nat) (P W S lb : List Int) (w : World) (B : Nat) (hP : P.length = off) (hWn : W.length = n) (hW : Lim Wd W) (hbig : n ≤ 17592186044416)
    (hbk : Bk w g (P ++ (W ++ S))) (h : Rd w B A m cb lb) (hB : B ≤ g) (hmn : m + 1 = n) (t : Nat) (ht : m = t + 1) (htl : t < lb.length) (htop : 9223372036854775808 ≤ lb[t]) (hlt : vl Wd W < Wd * vl Wd lb) :
    Calls Tryd.prog 119 #[.slice (some ⟨g, off, none⟩) n c, .slice A m cb] w (DwPost w g P W S lb) := by
  have hlbl := h.len
  have hge := gqV_ge hW h.lim (by omega) (by omega) htop hlt
  obtain ⟨b, of, rfl, hb, hc⟩ := h.at_ (by omega)
  have hc1 := hc t htl
  have hW1 := hbk.wcell hP (k := t + 1) (by omega)
  have hW0 := hbk.wcell hP (k := t) (by omega)
  have b1 : Lm W[t + 1] := hW.get (by omega)
  have b2 : Lm W[t] := hW.get (by omega)
  have b3 : Lm lb[t] := h.lim.get htl
  have bg := gqV_lm b1 b2 htop
  generalize W[t + 1] = x1 at *
  generalize W[t] = x0 at *
  generalize lb[t] = d at *
  have hcap := h.cap
  have hbig2 := h.big
  have e1 : (m : Int) - 1 = t := by omega
  have hi1 : (t : Int) + 1 < n := by omega
  have hi2 : (t : Int) < m := by omega
  have HP := Lib.hid hP; have HW := Lib.hid hWn; have HM := Lib.hid hmn; have HT := Lib.hid ht; have HL := Lib.hid hlbl; have HG := Lib.hid hge; have HLT := Lib.hid hlt
  clear hP hWn hmn ht hlbl hge hlt hc htl
  go_enter Tryd.func119, Tryd.ntmps119
  go_wp2
  go_quiet ((go_at_call 120; exact Calls.quiet_of (guessQuotient_any x1 x0 d _ b1 b2 htop b3)))
  have hbk1 := hbk.drewN nq
  have hrd1 : Rd (w.drewN nq) B (some ⟨b, of, none⟩) m cb lb := h
  have hgr1 : w.grownBy (w.drewN nq) (some g) := ⟨rfl, rfl, rfl, Nat.le_refl _, fun _ _ _ => rfl⟩
  generalize w.drewN nq = w1 at *
  generalize hgq : gqV x1 x0 d = gq at *
  have Hgq := Lib.hid hgq; clear hgq hc1 hW1 hW0
  go_wp2_with fail
  refine (subProduct_any g off n c (some ⟨b, of, none⟩) m cb P W S lb gq w1 B HP.out HW.out hW hbig hbk1 hrd1 hB HM.out bg).mono ?_
  rintro e w2 ⟨W', cc, rfl, q0, q1, q2, q3, q4, q5⟩
  have hgr2 := grownBy_trans hgr1 q5
  have Hq1 := Lib.hid q1; have Hq3 := Lib.hid q3
  clear q1 q3
  rcases q0 with h0 | h0
  · subst h0
    have hb0 : ((0 : Int) != 0) = false := by simp
    go_wp2
    go_ret
    have k3 := Hq3.out
    rw [show (0 : Int).toNat = 0 from rfl, Nat.mul_zero, Nat.add_zero] at k3
    have hR : vl Wd W' < vl Wd lb := by
      have h1 := HG.out
      rcases Nat.lt_or_ge (vl Wd W') (vl Wd lb) with h2 | h2
      · exact h2
      · exfalso
        have hpos : 0 < vl Wd lb := by
          have := HLT.out
          rcases Nat.eq_zero_or_pos (vl Wd lb) with h | h
          · rw [h] at this; omega
          · exact h
        have h3 : gq.toNat + 1 ≤ vl Wd W / vl Wd lb := (Nat.le_div_iff_mul_le hpos).2 (by rw [Nat.add_mul, Nat.one_mul]; omega)
        omega
    obtain ⟨r1, r2⟩ := dw_end k3 hR
    exact ⟨W', ret_u64 (by rw [← r1]; have := bg.1; omega), Hq1.out, q2, r2, q4, hgr2⟩
  · subst h0
    have hb0 : ((1 : Int) != 0) = true := by simp
    have hpos : 1 ≤ gq.toNat := by
      have k3 := Hq3.out
      have l1 := vl_lt q2
      rw [Hq1.out] at l1
      rw [show (1 : Int).toNat = 1 from rfl, Nat.mul_one] at k3
      rcases Nat.eq_zero_or_pos gq.toNat with h | h
      · rw [h, Nat.zero_mul] at k3; omega
      · exact h
    obtain ⟨gs, hgs⟩ : ∃ gs : Nat, gq = (gs : Int) + 1 := ⟨gq.toNat - 1, by have := bg.1; omega⟩
    have hgsW : gs < Wd := by have := bg.2; omega
    subst hgs
    have hgs2 : ((gs : Int) + 1).toNat = gs + 1 := by omega
    have k3 := Hq3.out
    rw [show (1 : Int).toNat = 1 from rfl, Nat.mul_one, hgs2] at k3
    have R0 : DwRel w g P W S lb (.int .u64 gs) w2 := ⟨W', gs, rfl, hgsW, Hq1.out, q2, k3, q4, hgr2⟩
    clear k3 hgs2 hpos bg
    have ew : IntKind.u64.wrap ((gs : Int) + 1 - 1) = gs := by rw [wrap_u64]; have : gs < 18446744073709551616 := hgsW; omega
    have ew2 : IntKind.u64.wrap (gs : Int) = gs := by rw [wrap_u64]; have : gs < 18446744073709551616 := hgsW; omega
    clear hgsW
    go_wp2_with fail
    go_loopw [6] (fun gv wr => DwRel w g P W S lb gv wr) (fun gv _ => (intOf gv).toNat)
    case atStart => exact R0
    case round =>
      clear R0 ew ew2 hgr2 q4 hgr1 hbk1 hrd1
      obtain ⟨Wk, gs, rfl, k1, k2, k3, k4, k5, k6⟩ := hrel
      have hrdr := h.grown k6 (by have := hbk.lt; omega) hB
      have HK2 := Lib.hid k2; have HK4 := Lib.hid k4
      have ew : IntKind.u64.wrap ((gs : Int) - 1) = (gs : Int) - 1 ∨ gs = 0 := by rw [wrap_u64]; have : gs < 18446744073709551616 := k1; omega
      clear k2 k4
      go_wp2_with fail
      refine (addTo_any g off n c (some ⟨b, of, none⟩) m cb P Wk S lb wr B HP.out (HK2.out.trans HW.out) k3 hbig k5 hrdr hB (by have := HM.out; omega)).mono ?_
      rintro e w3 ⟨W2, cc, rfl, j1, j2, j3, j4, j5, j6⟩
      have hgr3 := grownBy_trans k6 j6
      rw [HK2.out] at j4
      have hl2 := vl_lt j2
      rw [j1, HK2.out] at hl2
      have hl3 := vl_lt k3
      rw [HK2.out] at hl3
      have HJ1 := Lib.hid (j1.trans HK2.out); clear j1
      rcases j3 with h0 | h0
      · subst h0
        rw [show (0 : Int).toNat = 0 from rfl, Nat.mul_zero, Nat.add_zero] at j4
        have hk4 := HK4.out
        rw [Nat.add_mul, Nat.one_mul] at hk4
        have hgpos : gs ≠ 0 := by
          rintro rfl
          rw [Nat.zero_mul] at hk4
          omega
        obtain ⟨gt, rfl⟩ : ∃ gt, gs = gt + 1 := ⟨gs - 1, by omega⟩
        have R : DwRel w g P W S lb (.int .u64 gt) w3 := ⟨W2, gt, rfl, by omega, HJ1.out, j2, by omega, j5, hgr3⟩
        have ew3 : IntKind.u64.wrap (gt : Int) = gt := by rw [wrap_u64]; have : gt + 1 < 18446744073709551616 := k1; omega
        clear ew j4 hk4 hl2 hl3 hgpos k1
        go_wp2
        go_roundw
        case rel => exact R
        case measure => simp [intOf]
      · subst h0
        rw [show (1 : Int).toNat = 1 from rfl, Nat.mul_one] at j4
        have hk4 := HK4.out
        rw [Nat.add_mul, Nat.one_mul] at hk4
        have hv : vl Wd W2 + gs * vl Wd lb = vl Wd W := by omega
        obtain ⟨r1, r2⟩ := dw_end hv (by omega)
        have H1 := Lib.hid r1; have H2 := Lib.hid r2
        clear ew j4 hk4 hl2 hl3 hv r1 r2 k1
        go_wp2
        go_ret
        exact ⟨W2, ret_u64 (by rw [← H1.out]), HJ1.out, j2, H2.out, j5, hgr3⟩
end Go.Proofs.YtcoidcbbdibnaaaDoor
