/-
  Numbers of at most so many limbs.
-/
import Derived.Test.YtbpamkpclofnbaaGreatPa
import Derived.Deep.LoopGhost
import Derived.Laws.IdiomStrings
namespace Go.Proofs.YtbpamkpclofnbaaGreat
section
set_option maxRecDepth 100000
open Go.RowKit
set_option linter.unusedVariables false

def hfQ (hi lo d : Int) : Int := (hi * 4294967296 + lo) / d
def hfR (hi lo d : Int) : Int := (hi * 4294967296 + lo) % d

def HfPre (hi lo d d0 d1 : Int) : Prop := 0 ≤ hi ∧ hi < d ∧ 0 ≤ lo ∧ lo < 4294967296 ∧ 2147483648 ≤ d1 ∧ d1 < 4294967296 ∧ 0 ≤ d0 ∧ d0 < 4294967296 ∧ d = d1 * 4294967296 + d0
def HfInv (hi lo d d1 g r : Int) : Prop := hi = g * d1 + r ∧ 0 ≤ g ∧ 0 ≤ r ∧ g ≤ 4294967297 ∧ r ≤ 8589934592 ∧ (4294967296 ≤ r → g ≤ 4294967296) ∧ hfQ hi lo d ≤ g

theorem hfQ_lt {hi lo d d0 d1 : Int} (h : HfPre hi lo d d0 d1) : 0 ≤ hfQ hi lo d ∧ hfQ hi lo d < 4294967296 := by
  obtain ⟨h1, h2, h3, h4, h5, h6, h7, h8, h9⟩ := h
  have hd : 0 < d := by omega
  refine ⟨Int.ediv_nonneg (by omega) (by omega), ?_⟩
  exact Int.ediv_lt_of_lt_mul hd (by omega)
theorem gd {d d0 d1 g : Int} (h : d = d1 * 4294967296 + d0) : g * d = g * d1 * 4294967296 + g * d0 := by rw [h, Int.mul_add, Int.mul_assoc]
theorem HfInv.start {hi lo d d0 d1 : Int} (h : HfPre hi lo d d0 d1) : HfInv hi lo d d1 (IntKind.u64.wrap (hi.tdiv d1)) (hi % d1) ∧ 0 ≤ IntKind.u64.wrap (hi.tdiv d1) := by
  have hp := h
  obtain ⟨h1, h2, h3, h4, h5, h6, h7, h8, h9⟩ := h
  have e1 : hi.tdiv d1 = hi / d1 := Int.tdiv_eq_ediv_of_nonneg h1
  have b0 : 0 ≤ hi / d1 := Int.ediv_nonneg h1 (by omega)
  have b1 : hi / d1 < 4294967298 := Int.ediv_lt_of_lt_mul (by omega) (by omega)
  have e2 : IntKind.u64.wrap (hi.tdiv d1) = hi / d1 := by rw [e1, wrap_u64]; omega
  rw [e2]
  have e3 := Int.mul_ediv_add_emod hi d1
  have b2 := Int.emod_nonneg hi (show d1 ≠ 0 by omega)
  have b3 := Int.emod_lt_of_pos hi (show 0 < d1 by omega)
  refine ⟨⟨by rw [Int.mul_comm]; exact e3.symm, b0, b2, by omega, by omega, by omega, ?_⟩, b0⟩
  have hq : hfQ hi lo d < hi / d1 + 1 := by
    refine Int.ediv_lt_of_lt_mul (by omega) ?_
    rw [gd h9, Int.add_mul (hi / d1) 1 d1, Int.one_mul, Int.add_mul]
    have : 0 ≤ (hi / d1 + 1) * d0 := Int.mul_nonneg (by omega) h7
    rw [Int.mul_comm] at e3
    omega
  omega
theorem HfInv.dec {hi lo d d0 d1 g r : Int} (hp : HfPre hi lo d d0 d1) (h : HfInv hi lo d d1 g r) (hr : r ≤ 4294967295) (hc : 4294967295 < g ∨ (g ≤ 4294967295 ∧ r * 4294967296 + lo < g * d0)) :
    HfInv hi lo d d1 (IntKind.u64.wrap (g - 1)) (IntKind.u64.wrap (r + d1)) ∧ (intOf (.int .u64 (IntKind.u64.wrap (g - 1)))).toNat < (intOf (.int .u64 g)).toNat := by
  have hq := hfQ_lt hp
  obtain ⟨h1, h2, h3, h4, h5, h6, h7, h8, h9⟩ := hp
  obtain ⟨i1, i2, i3, i4, i5, i6, i7⟩ := h
  have hlt : hfQ hi lo d < g := by
    rcases hc with hc | ⟨hc1, hc2⟩
    · omega
    · refine Int.ediv_lt_of_lt_mul (by omega) ?_
      rw [gd h9]
      omega
  have e1 : IntKind.u64.wrap (g - 1) = g - 1 := by rw [wrap_u64]; omega
  have e2 : IntKind.u64.wrap (r + d1) = r + d1 := by rw [wrap_u64]; omega
  rw [e1, e2]
  refine ⟨⟨by rw [Int.sub_mul, Int.one_mul]; omega, by omega, by omega, by omega, by omega, by omega, by omega⟩, ?_⟩
  simp [intOf]; omega
theorem HfInv.exit {hi lo d d0 d1 g r : Int} (hp : HfPre hi lo d d0 d1) (h : HfInv hi lo d d1 g r) (hc : 4294967295 < r ∨ g * d0 ≤ r * 4294967296 + lo) : g = hfQ hi lo d := by
  have hq := hfQ_lt hp
  obtain ⟨h1, h2, h3, h4, h5, h6, h7, h8, h9⟩ := hp
  obtain ⟨i1, i2, i3, i4, i5, i6, i7⟩ := h
  have : g ≤ hfQ hi lo d := by
    refine Int.le_ediv_of_mul_le (by omega) ?_
    rw [gd h9]
    rcases hc with hc | hc
    · have b1 : g * d0 ≤ 4294967296 * 4294967295 := Int.mul_le_mul (by omega) (by omega) h7 (by omega)
      omega
    · omega
  omega
theorem hfR_eq {hi lo d d0 d1 : Int} (hp : HfPre hi lo d d0 d1) : IntKind.u64.wrap (IntKind.u64.wrap (IntKind.u64.wrap (hi * 4294967296) + lo) - IntKind.u64.wrap (hfQ hi lo d * d)) = hfR hi lo d := by
  obtain ⟨h1, h2, h3, h4, h5, h6, h7, h8, h9⟩ := hp
  have e1 := Int.mul_ediv_add_emod (hi * 4294967296 + lo) d
  have b1 := Int.emod_nonneg (hi * 4294967296 + lo) (show d ≠ 0 by omega)
  have b2 := Int.emod_lt_of_pos (hi * 4294967296 + lo) (show 0 < d by omega)
  rw [Int.mul_comm] at e1
  simp only [wrap_u64, hfQ, hfR]
  generalize (hi * 4294967296 + lo) % d = R at *
  generalize (hi * 4294967296 + lo) / d * d = Q at *
  omega
theorem or_join32 (r lo : Int) (h0 : 0 ≤ r) (h1 : r ≤ 4294967295) (h2 : 0 ≤ lo) (h3 : lo < 4294967296) : bits .or .u64 (r * 4294967296) lo = r * 4294967296 + lo :=
  bits_join .u64 64 (by decide) (fun n h0 h1 => by rw [wrap_u64]; have : n < 18446744073709551616 := by simpa using h1
                                                   omega) 32 _ _ (by omega) (by show _ % 4294967296 = 0; omega) (by show _ < 18446744073709551616; omega) h2 (by show _ < 4294967296; omega) (by show _ < 18446744073709551616; omega)
theorem wrap_gd {g d0 : Int} (h1 : 0 ≤ g) (h2 : g ≤ 4294967295) (h3 : 0 ≤ d0) (h4 : d0 < 4294967296) : IntKind.u64.wrap (g * d0) = g * d0 := by
  have := halves_mul g d0 ⟨h1, h2⟩ ⟨h3, by omega⟩
  rw [wrap_u64]; omega

set_option maxHeartbeats 1000000 in
theorem divideHalf_any (hi lo d : Int) (w : World) (hh : 0 ≤ hi ∧ hi < d) (hl : 0 ≤ lo ∧ lo < 4294967296) (hd : 9223372036854775808 ≤ d) (hdl : Lm d) :
    Calls Tryz.prog 184 #[.int .u64 hi, .int .u64 lo, .int .u64 d] w fun e w' => e = .returned (.tuple #[.int .u64 (hfQ hi lo d), .int .u64 (hfR hi lo d)]) ∧ Quiet w w' := by
  obtain ⟨d0, hd0⟩ : ∃ d0, bits .and .u64 d 4294967295 = d0 := ⟨_, rfl⟩
  obtain ⟨d1, hd1⟩ : ∃ d1, d / 4294967296 = d1 := ⟨_, rfl⟩
  have hpre : HfPre hi lo d d0 d1 := by
    unfold Lm at hdl
    rw [Wd_eq] at hdl
    rw [mask32 d hdl.1 (by omega)] at hd0
    unfold HfPre
    omega
  have hst := HfInv.start hpre
  have hd1p : 0 < d1 := by have := hpre.2.2.2.2.1; omega
  have hd1n : ¬ d1 = 0 := by omega
  have hd00 := hpre.2.2.2.2.2.2.1
  have hd01 := hpre.2.2.2.2.2.2.2.1
  have HS := Lib.hid hst; clear hst
  go_enter Tryz.func184, Tryz.ntmps184
  go_wp2
  go_quiet (fail)
  go_wp2
  go_loopw [10, 11] (fun gv rv wr => ∃ g r : Int, gv = .int .u64 g ∧ rv = .int .u64 r ∧ HfInv hi lo d d1 g r ∧ Quiet w wr) (fun gv _ _ => (intOf gv).toNat)
  case atStart => exact ⟨_, _, rfl, rfl, HS.out.1, ⟨_, rfl⟩⟩
  case round =>
    obtain ⟨g, r, rfl, rfl, hinv, hq⟩ := hrel
    have hg0 := hinv.2.1
    have hr0 := hinv.2.2.1
    clear hd0 hd1
    by_cases hr : r ≤ 4294967295
    · by_cases hg : g ≤ 4294967295
      · go_wp2
        · have hc : 4294967295 < g ∨ bits BinOp.or IntKind.u64 (r * 4294967296) lo < IntKind.u64.wrap (g * d0) := by assumption
          rw [or_join32 r lo hr0 hr hl.1 hl.2, wrap_gd hg0 hg hd00 hd01] at hc
          obtain ⟨k1, k2⟩ := HfInv.dec hpre hinv hr (.inr ⟨hg, by omega⟩)
          go_roundw
          case rel => exact ⟨_, _, rfl, rfl, k1, hq⟩
          case measure => exact k2
        · have hc : g ≤ 4294967295 ∧ IntKind.u64.wrap (g * d0) ≤ bits BinOp.or IntKind.u64 (r * 4294967296) lo := by assumption
          rw [or_join32 r lo hr0 hr hl.1 hl.2, wrap_gd hg0 hg hd00 hd01] at hc
          have hgq := HfInv.exit hpre hinv (.inr hc.2)
          go_ret2
          exact ⟨two_ret hgq (by rw [hgq]; exact hfR_eq hpre), hq⟩
      · go_wp2
        obtain ⟨k1, k2⟩ := HfInv.dec hpre hinv hr (.inl (by omega))
        go_roundw
        case rel => exact ⟨_, _, rfl, rfl, k1, hq⟩
        case measure => exact k2
    · go_wp2
      have hgq := HfInv.exit hpre hinv (.inl (by omega))
      go_ret2
      exact ⟨two_ret hgq (by rw [hgq]; exact hfR_eq hpre), hq⟩

theorem Quiet.trans {a b c : World} (h : Quiet a b) (k : Quiet b c) : Quiet a c := by
  obtain ⟨n, rfl⟩ := h
  obtain ⟨m, rfl⟩ := k
  exact ⟨n + m, by simp [World.drewN, Nat.add_assoc]⟩
/-- The guess: the quotient of two limbs by one, or the greatest limb. -/
def gqV (hi lo d : Int) : Int := if hi < d then (hi * (Wd : Int) + lo) / d else (Wd : Int) - 1
theorem hfR_lt {hi lo d : Int} (hd : 0 < d) : 0 ≤ hfR hi lo d ∧ hfR hi lo d < d := ⟨Int.emod_nonneg _ (by omega), Int.emod_lt_of_pos _ hd⟩
theorem hf_two {hi lo d : Int} (hd : 0 < d) : (hi * (Wd : Int) + lo) / d = hfQ hi (lo / 4294967296) d * 4294967296 + hfQ (hfR hi (lo / 4294967296) d) (lo % 4294967296) d := by
  rw [Wd_eq]
  unfold hfQ hfR
  have e1 := Int.mul_ediv_add_emod (hi * 4294967296 + lo / 4294967296) d
  generalize (hi * 4294967296 + lo / 4294967296) / d = q1 at *
  generalize (hi * 4294967296 + lo / 4294967296) % d = r1 at *
  have e2 : hi * ((18446744073709551616 : Nat) : Int) + lo = (r1 * 4294967296 + lo % 4294967296) + d * (q1 * 4294967296) := by
    rw [← Int.mul_assoc]
    generalize d * q1 = dq at *
    omega
  rw [e2, Int.add_mul_ediv_left _ _ (by omega)]
  omega
theorem gq_join {q1 q0 : Int} (h0 : 0 ≤ q1) (h1 : q1 < 4294967296) (h2 : 0 ≤ q0) (h3 : q0 < 4294967296) : bits .or .u64 (IntKind.u64.wrap (q1 * 4294967296)) q0 = q1 * 4294967296 + q0 := by
  have e : IntKind.u64.wrap (q1 * 4294967296) = q1 * 4294967296 := by rw [wrap_u64]; omega
  rw [e]
  exact or_join32 q1 q0 h0 (by omega) h2 h3
theorem ret_u64 {a b : Int} (h : a = b) : Ending.returned (.int .u64 a) = .returned (.int .u64 b) := by rw [h]
theorem hfPre_of {hi lo d : Int} (hh : 0 ≤ hi ∧ hi < d) (hl : 0 ≤ lo ∧ lo < 4294967296) (hd : 9223372036854775808 ≤ d) (hdl : Lm d) : HfPre hi lo d (d % 4294967296) (d / 4294967296) := by
  unfold Lm at hdl
  rw [Wd_eq] at hdl
  unfold HfPre
  omega

set_option maxHeartbeats 1000000 in
theorem guessQuotient_any (hi lo d : Int) (w : World) (hh : Lm hi) (hl : Lm lo) (hd : 9223372036854775808 ≤ d) (hdl : Lm d) :
    Calls Tryz.prog 182 #[.int .u64 hi, .int .u64 lo, .int .u64 d] w fun e w' => e = .returned (.int .u64 (gqV hi lo d)) ∧ Quiet w w' := by
  by_cases hlt : hi < d
  · have hl1 : 0 ≤ lo / 4294967296 ∧ lo / 4294967296 < 4294967296 := by unfold Lm at hl; rw [Wd_eq] at hl; omega
    have hl0 : 0 ≤ lo % 4294967296 ∧ lo % 4294967296 < 4294967296 := by omega
    have hm : bits .and .u64 lo 4294967295 = lo % 4294967296 := mask32 lo hl.1 (by have := hl.2; rw [Wd_eq] at this; omega)
    have hfin : gqV hi lo d = hfQ hi (lo / 4294967296) d * 4294967296 + hfQ (hfR hi (lo / 4294967296) d) (lo % 4294967296) d := by
      unfold gqV
      rw [if_pos hlt, hf_two (by omega)]
    have b1 := hfQ_lt (hfPre_of ⟨hh.1, hlt⟩ hl1 hd hdl)
    have hr := hfR_lt (hi := hi) (lo := lo / 4294967296) (d := d) (by omega)
    have b0 := hfQ_lt (hfPre_of hr hl0 hd hdl)
    have HF := Lib.hid hfin; clear hfin
    have hge : ¬ d ≤ hi := by omega
    generalize hl0e : lo % 4294967296 = lo0 at *
    have Hl0 := Lib.hid hl0e; clear hl0e
    generalize hl1e : lo / 4294967296 = lo1 at *
    go_enter Tryz.func182, Tryz.ntmps182
    go_wp2_with fail
    refine (divideHalf_any hi lo1 d _ ⟨hh.1, hlt⟩ hl1 hd hdl).mono ?_
    rintro e w1 ⟨rfl, hq1⟩
    generalize hq1e : hfQ hi lo1 d = q1 at *
    have Hq1 := Lib.hid hq1e; clear hq1e
    generalize hr1e : hfR hi lo1 d = r1 at *
    have Hr1 := Lib.hid hr1e; clear hr1e
    go_wp2_with fail
    refine (divideHalf_any r1 lo0 d _ hr hl0 hd hdl).mono ?_
    rintro e w2 ⟨rfl, hq2⟩
    generalize hq0e : hfQ r1 lo0 d = q0 at *
    have Hq0 := Lib.hid hq0e; clear hq0e
    go_wp2
    go_ret
    refine ⟨ret_u64 ?_, hq1.trans hq2⟩
    rw [HF.out]
    first | exact or_join32 q1 q0 b1.1 (by omega) b0.1 b0.2 | exact gq_join b1.1 b1.2 b0.1 b0.2
  · go_enter Tryz.func182, Tryz.ntmps182
    go_wp2
    go_ret
    exact ⟨ret_u64 (by unfold gqV; rw [if_neg (by omega), Wd_eq]; rfl), Quiet.refl _⟩
end
end Go.Proofs.YtbpamkpclofnbaaGreat
namespace Go.Proofs.YtbpamkpclofnbaaGreat
section
set_option maxRecDepth 100000
open Go.RowKit
set_option linter.unusedVariables false

theorem gqV_lm {hi lo d : Int} (hh : Lm hi) (hl : Lm lo) (hd : 9223372036854775808 ≤ d) : Lm (gqV hi lo d) := by
  unfold gqV
  split
  · rename_i h
    refine ⟨Int.ediv_nonneg (Int.add_nonneg (Int.mul_nonneg hh.1 (Int.natCast_nonneg _)) hl.1) (by omega), Int.ediv_lt_of_lt_mul (by omega) ?_⟩
    have h1 : (hi + 1) * (Wd : Int) ≤ d * (Wd : Int) := Int.mul_le_mul_of_nonneg_right (by omega) (Int.natCast_nonneg _)
    rw [Int.add_mul, Int.one_mul] at h1
    rw [Int.mul_comm (Wd : Int)]
    have := hl.2
    omega
  · unfold Lm; rw [Wd_eq]; omega
/-- The guess is not too small. -/
theorem gqV_ge {W lb : List Int} {t : Nat} (hW : Lim Wd W) (hb : Lim Wd lb) (hlb : lb.length = t + 1) (hlW : W.length = t + 2) (htop : 9223372036854775808 ≤ lb[t]) (hlt : vl Wd W < Wd * vl Wd lb) :
    vl Wd W / vl Wd lb ≤ (gqV W[t + 1] W[t] lb[t]).toNat := by
  have b1 := hW.get (show t + 1 < W.length by omega)
  have b2 := hW.get (show t < W.length by omega)
  have b3 := hb.get (show t < lb.length by omega)
  have e1 := vl_split Wd W t (by omega)
  rw [vl_drop_step Wd W t (by omega), vl_drop_step Wd W (t + 1) (by omega), List.drop_eq_nil_of_le (by omega)] at e1
  have e2 := vl_split Wd lb t (by omega)
  rw [vl_drop_step Wd lb t (by omega), List.drop_eq_nil_of_le (by omega)] at e2
  simp only [vl, Nat.mul_zero, Nat.add_zero] at e1 e2
  have l1 := vl_lt (hW.take t)
  rw [List.length_take, Nat.min_eq_left (by omega)] at l1
  generalize W[t + 1] = hi at *
  generalize W[t] = lo at *
  generalize lb[t] = d at *
  obtain ⟨hi, rfl⟩ := Int.eq_ofNat_of_zero_le b1.1
  obtain ⟨lo, rfl⟩ := Int.eq_ofNat_of_zero_le b2.1
  obtain ⟨d, rfl⟩ := Int.eq_ofNat_of_zero_le b3.1
  simp only [Int.toNat_natCast] at e1 e2
  have hq : vl Wd W / vl Wd lb < Wd := (Nat.div_lt_iff_lt_mul (by
    rcases Nat.eq_zero_or_pos (vl Wd lb) with h | h
    · rw [h] at hlt; omega
    · exact h)).2 hlt
  unfold gqV
  split
  · rename_i h
    have e3 : (((hi : Int) * (Wd : Int) + lo) / d).toNat = (hi * Wd + lo) / d := by
      rw [← Int.natCast_mul, ← Int.natCast_add, ← Int.natCast_ediv, Int.toNat_natCast]
    rw [e3, Nat.le_div_iff_mul_le (by omega)]
    have h1 := Nat.div_mul_le_self (vl Wd W) (vl Wd lb)
    generalize vl Wd W / vl Wd lb = q at *
    have h2 : q * (Wd ^ t * d) ≤ q * vl Wd lb := Nat.mul_le_mul_left _ (by omega)
    have h3 : Wd ^ t * (q * d) < Wd ^ t * (hi * Wd + lo + 1) := by
      have h4 : q * (Wd ^ t * d) = Wd ^ t * (q * d) := Nat.mul_left_comm ..
      have h5 : Wd ^ t * (hi * Wd + lo + 1) = Wd ^ t * (lo + Wd * hi) + Wd ^ t := by rw [Nat.mul_add _ _ 1, Nat.mul_one, Nat.mul_comm hi Wd, Nat.add_comm lo]
      omega
    have := Nat.lt_of_mul_lt_mul_left h3
    omega
  · omega

def DwPost (w : World) (g : Nat) (P W S lb : List Int) (e : Ending) (w' : World) : Prop :=
  ∃ W', e = .returned (.int .u64 ((vl Wd W / vl Wd lb : Nat) : Int)) ∧ W'.length = W.length ∧ Lim Wd W' ∧ vl Wd W' = vl Wd W % vl Wd lb ∧ Bk w' g (P ++ (W' ++ S)) ∧ w.grownBy w' (some g)
/-- Too much was taken away: gs + 1 times. -/
def DwRel (w : World) (g : Nat) (P W S lb : List Int) (gv : Value) (wr : World) : Prop :=
  ∃ Wk, ∃ gs : Nat, gv = .int .u64 gs ∧ gs < Wd ∧ Wk.length = W.length ∧ Lim Wd Wk ∧ vl Wd Wk + (gs + 1) * vl Wd lb = vl Wd W + Wd ^ W.length ∧ Bk wr g (P ++ (Wk ++ S)) ∧ w.grownBy wr (some g)
theorem dw_end {N D R q : Nat} (h : R + q * D = N) (hR : R < D) : q = N / D ∧ R = N % D := by
  have h1 : N = R + D * q := by rw [← h, Nat.mul_comm]
  rw [h1, Nat.add_mul_div_left _ _ (by omega), Nat.add_mul_mod_self_left, Nat.div_eq_of_lt hR, Nat.mod_eq_of_lt hR]
  omega

set_option maxHeartbeats 1000000 in
theorem divideWindow_any (g off n c : Nat) (A : Option Addr) (m cb : Nat) (P W S lb : List Int) (w : World) (B : Nat) (hP : P.length = off) (hWn : W.length = n) (hW : Lim Wd W) (hbig : n ≤ 17592186044416)
    (hbk : Bk w g (P ++ (W ++ S))) (h : Rd w B A m cb lb) (hB : B ≤ g) (hmn : m + 1 = n) (t : Nat) (ht : m = t + 1) (htl : t < lb.length) (htop : 9223372036854775808 ≤ lb[t]) (hlt : vl Wd W < Wd * vl Wd lb) :
    Calls Tryz.prog 178 #[.slice (some ⟨g, off, none⟩) n c, .slice A m cb] w (DwPost w g P W S lb) := by
  have hlbl := h.len
  have hge := gqV_ge hW h.lim (by omega) (by omega) htop hlt
  obtain ⟨b, of, rfl, hb, hc⟩ := h.at_ (by omega)
  have hc1 := hc t htl
  have hW1 := hbk.wcell hP (k := t + 1) (by omega)
  have hW0 := hbk.wcell hP (k := t) (by omega)
  have b1 : Lm W[t + 1] := hW.get (by omega)
  have b2 : Lm W[t] := hW.get (by omega)
  have b3 : Lm lb[t] := h.lim.get htl
  have bg := gqV_lm b1 b2 htop
  generalize W[t + 1] = x1 at *
  generalize W[t] = x0 at *
  generalize lb[t] = d at *
  have hcap := h.cap
  have hbig2 := h.big
  have e1 : (m : Int) - 1 = t := by omega
  have hi1 : (t : Int) + 1 < n := by omega
  have hi2 : (t : Int) < m := by omega
  have HP := Lib.hid hP; have HW := Lib.hid hWn; have HM := Lib.hid hmn; have HT := Lib.hid ht; have HL := Lib.hid hlbl; have HG := Lib.hid hge; have HLT := Lib.hid hlt
  clear hP hWn hmn ht hlbl hge hlt hc htl
  go_enter Tryz.func178, Tryz.ntmps178
  go_wp2
  go_quiet ((go_at_call 182; exact Calls.quiet_of (guessQuotient_any x1 x0 d _ b1 b2 htop b3)))
  have hbk1 := hbk.drewN nq
  have hrd1 : Rd (w.drewN nq) B (some ⟨b, of, none⟩) m cb lb := h
  have hgr1 : w.grownBy (w.drewN nq) (some g) := ⟨rfl, rfl, rfl, Nat.le_refl _, fun _ _ _ => rfl⟩
  generalize w.drewN nq = w1 at *
  generalize hgq : gqV x1 x0 d = gq at *
  have Hgq := Lib.hid hgq; clear hgq hc1 hW1 hW0
  go_wp2_with fail
  refine (subProduct_any g off n c (some ⟨b, of, none⟩) m cb P W S lb gq w1 B HP.out HW.out hW hbig hbk1 hrd1 hB HM.out bg).mono ?_
  rintro e w2 ⟨W', cc, rfl, q0, q1, q2, q3, q4, q5⟩
  have hgr2 := grownBy_trans hgr1 q5
  have Hq1 := Lib.hid q1; have Hq3 := Lib.hid q3
  clear q1 q3
  rcases q0 with h0 | h0
  · subst h0
    have hb0 : ((0 : Int) != 0) = false := by simp
    go_wp2
    go_ret
    have k3 := Hq3.out
    rw [show (0 : Int).toNat = 0 from rfl, Nat.mul_zero, Nat.add_zero] at k3
    have hR : vl Wd W' < vl Wd lb := by
      have h1 := HG.out
      rcases Nat.lt_or_ge (vl Wd W') (vl Wd lb) with h2 | h2
      · exact h2
      · exfalso
        have hpos : 0 < vl Wd lb := by
          have := HLT.out
          rcases Nat.eq_zero_or_pos (vl Wd lb) with h | h
          · rw [h] at this; omega
          · exact h
        have h3 : gq.toNat + 1 ≤ vl Wd W / vl Wd lb := (Nat.le_div_iff_mul_le hpos).2 (by rw [Nat.add_mul, Nat.one_mul]; omega)
        omega
    obtain ⟨r1, r2⟩ := dw_end k3 hR
    exact ⟨W', ret_u64 (by rw [← r1]; have := bg.1; omega), Hq1.out, q2, r2, q4, hgr2⟩
  · subst h0
    have hb0 : ((1 : Int) != 0) = true := by simp
    have hpos : 1 ≤ gq.toNat := by
      have k3 := Hq3.out
      have l1 := vl_lt q2
      rw [Hq1.out] at l1
      rw [show (1 : Int).toNat = 1 from rfl, Nat.mul_one] at k3
      rcases Nat.eq_zero_or_pos gq.toNat with h | h
      · rw [h, Nat.zero_mul] at k3; omega
      · exact h
    obtain ⟨gs, hgs⟩ : ∃ gs : Nat, gq = (gs : Int) + 1 := ⟨gq.toNat - 1, by have := bg.1; omega⟩
    have hgsW : gs < Wd := by have := bg.2; omega
    subst hgs
    have hgs2 : ((gs : Int) + 1).toNat = gs + 1 := by omega
    have k3 := Hq3.out
    rw [show (1 : Int).toNat = 1 from rfl, Nat.mul_one, hgs2] at k3
    have R0 : DwRel w g P W S lb (.int .u64 gs) w2 := ⟨W', gs, rfl, hgsW, Hq1.out, q2, k3, q4, hgr2⟩
    clear k3 hgs2 hpos bg
    have ew : IntKind.u64.wrap ((gs : Int) + 1 - 1) = gs := by rw [wrap_u64]; have : gs < 18446744073709551616 := hgsW; omega
    have ew2 : IntKind.u64.wrap (gs : Int) = gs := by rw [wrap_u64]; have : gs < 18446744073709551616 := hgsW; omega
    clear hgsW
    go_wp2_with fail
    go_loopw [6] (fun gv wr => DwRel w g P W S lb gv wr) (fun gv _ => (intOf gv).toNat)
    case atStart => exact R0
    case round =>
      clear R0 ew ew2 hgr2 q4 hgr1 hbk1 hrd1
      obtain ⟨Wk, gs, rfl, k1, k2, k3, k4, k5, k6⟩ := hrel
      have hrdr := h.grown k6 (by have := hbk.lt; omega) hB
      have HK2 := Lib.hid k2; have HK4 := Lib.hid k4
      have ew : IntKind.u64.wrap ((gs : Int) - 1) = (gs : Int) - 1 ∨ gs = 0 := by rw [wrap_u64]; have : gs < 18446744073709551616 := k1; omega
      clear k2 k4
      go_wp2_with fail
      refine (addTo_any g off n c (some ⟨b, of, none⟩) m cb P Wk S lb wr B HP.out (HK2.out.trans HW.out) k3 hbig k5 hrdr hB (by have := HM.out; omega)).mono ?_
      rintro e w3 ⟨W2, cc, rfl, j1, j2, j3, j4, j5, j6⟩
      have hgr3 := grownBy_trans k6 j6
      rw [HK2.out] at j4
      have hl2 := vl_lt j2
      rw [j1, HK2.out] at hl2
      have hl3 := vl_lt k3
      rw [HK2.out] at hl3
      have HJ1 := Lib.hid (j1.trans HK2.out); clear j1
      rcases j3 with h0 | h0
      · subst h0
        rw [show (0 : Int).toNat = 0 from rfl, Nat.mul_zero, Nat.add_zero] at j4
        have hk4 := HK4.out
        rw [Nat.add_mul, Nat.one_mul] at hk4
        have hgpos : gs ≠ 0 := by
          rintro rfl
          rw [Nat.zero_mul] at hk4
          omega
        obtain ⟨gt, rfl⟩ : ∃ gt, gs = gt + 1 := ⟨gs - 1, by omega⟩
        have R : DwRel w g P W S lb (.int .u64 gt) w3 := ⟨W2, gt, rfl, by omega, HJ1.out, j2, by omega, j5, hgr3⟩
        have ew3 : IntKind.u64.wrap (gt : Int) = gt := by rw [wrap_u64]; have : gt + 1 < 18446744073709551616 := k1; omega
        clear ew j4 hk4 hl2 hl3 hgpos k1
        go_wp2
        go_roundw
        case rel => exact R
        case measure => simp [intOf]
      · subst h0
        rw [show (1 : Int).toNat = 1 from rfl, Nat.mul_one] at j4
        have hk4 := HK4.out
        rw [Nat.add_mul, Nat.one_mul] at hk4
        have hv : vl Wd W2 + gs * vl Wd lb = vl Wd W := by omega
        obtain ⟨r1, r2⟩ := dw_end hv (by omega)
        have H1 := Lib.hid r1; have H2 := Lib.hid r2
        clear ew j4 hk4 hl2 hl3 hv r1 r2 k1
        go_wp2
        go_ret
        exact ⟨W2, ret_u64 (by rw [← H1.out]), HJ1.out, j2, H2.out, j5, hgr3⟩
end
end Go.Proofs.YtbpamkpclofnbaaGreat
namespace Go.Proofs.YtbpamkpclofnbaaGreat
section
set_option maxRecDepth 100000
open Go.RowKit
set_option linter.unusedVariables false

/-- A division under way: of the quotient Q the limbs from j on stand; R is left. -/
def LdInv (V D : Nat) (n T : Nat) (j : Nat) (R Q : List Int) : Prop :=
  R.length = n + 1 ∧ Q.length = T ∧ Lim Wd R ∧ Lim Wd Q ∧ vl Wd R + D * (Wd ^ j * vl Wd (Q.drop j)) = V ∧ vl Wd R < D * Wd ^ j

theorem zeros_from {R : List Int} (hR : Lim Wd R) {j : Nat} (hv : vl Wd R < Wd ^ j) : vl Wd (R.drop j) = 0 := by
  rcases Nat.lt_or_ge R.length j with h | h
  · rw [List.drop_eq_nil_of_le (by omega)]; rfl
  · have h1 := vl_split Wd R j h
    rcases Nat.eq_zero_or_pos (vl Wd (R.drop j)) with h0 | h0
    · exact h0
    · exfalso
      have h2 : Wd ^ j * 1 ≤ Wd ^ j * vl Wd (R.drop j) := Nat.mul_le_mul_left _ h0
      rw [Nat.mul_one] at h2
      generalize Wd ^ j * vl Wd (R.drop j) = a at *
      generalize Wd ^ j = b at *
      omega

/-- The window that comes next. -/
theorem LdInv.win {V D n T k m : Nat} {R Q : List Int} (h : LdInv V D n T (k + 1) R Q) (hD : D < Wd ^ m) :
    vl Wd R = vl Wd (R.take k) + Wd ^ k * vl Wd ((R.drop k).take (m + 1)) ∧ vl Wd (R.drop (k + (m + 1))) = 0 ∧ (k ≤ n → vl Wd ((R.drop k).take (m + 1)) < Wd * D) := by
  obtain ⟨h1, h2, h3, h4, h5, h6⟩ := h
  have hz : vl Wd R < Wd ^ (k + (m + 1)) := by
    have h7 : D * Wd ^ (k + 1) ≤ Wd ^ m * Wd ^ (k + 1) := Nat.mul_le_mul_right _ (by omega)
    rw [← Nat.pow_add, show m + (k + 1) = k + (m + 1) by omega] at h7
    exact Nat.lt_of_lt_of_le h6 h7
  have hz2 := zeros_from h3 hz
  have e1 : vl Wd R = vl Wd (R.take k) + Wd ^ k * vl Wd ((R.drop k).take (m + 1)) := by
    have e1 := congrArg (vl Wd) (cut3 R k (m + 1))
    rw [vl3, hz2, Nat.mul_zero, Nat.add_zero] at e1
    rcases Nat.lt_or_ge R.length k with hk | hk
    · rw [List.drop_eq_nil_of_le (by omega)] at e1 ⊢
      simpa [vl] using e1
    · rw [show (R.take k).length = k by simp; omega] at e1
      exact e1
  refine ⟨e1, hz2, fun hk => ?_⟩
  have h8 : Wd ^ k * vl Wd ((R.drop k).take (m + 1)) < Wd ^ k * (Wd * D) := by
    rw [e1, Nat.pow_succ, Nat.mul_comm D, Nat.mul_assoc] at h6
    exact Nat.lt_of_le_of_lt (Nat.le_add_left _ _) h6
  exact Nat.lt_of_mul_lt_mul_left h8
theorem LdInv.next {V D n T k m : Nat} {R Q W' : List Int} (h : LdInv V D n T (k + 1) R Q) (hD : D < Wd ^ m) (hkm : k + (m + 1) ≤ n + 1) (hkT : k < T) (hW : W'.length = m + 1) (hWl : Lim Wd W')
    (hv : vl Wd W' = vl Wd ((R.drop k).take (m + 1)) % D) :
    LdInv V D n T k (R.take k ++ (W' ++ R.drop (k + (m + 1)))) (Q.set k ((vl Wd ((R.drop k).take (m + 1)) / D : Nat) : Int)) := by
  obtain ⟨e1, e2, e3⟩ := h.win hD
  have hk3 := e3 (by omega)
  obtain ⟨h1, h2, h3, h4, h5, h6⟩ := h
  have hD0 : 0 < D := by
    rcases Nat.eq_zero_or_pos D with h | h
    · rw [h] at h6; omega
    · exact h
  generalize hX : vl Wd ((R.drop k).take (m + 1)) = X at *
  have hq : X / D < Wd := (Nat.div_lt_iff_lt_mul hD0).2 hk3
  have hPl : (R.take k).length = k := by simp; omega
  have hr : vl Wd W' < D := by rw [hv]; exact Nat.mod_lt _ hD0
  have e4 : vl Wd (R.take k ++ (W' ++ R.drop (k + (m + 1)))) = vl Wd (R.take k) + Wd ^ k * vl Wd W' := by rw [vl3, e2, Nat.mul_zero, Nat.add_zero, hPl]
  have e5 : vl Wd ((Q.set k ((X / D : Nat) : Int)).drop k) = X / D + Wd * vl Wd (Q.drop (k + 1)) := by
    rw [vl_drop_step Wd _ k (by simp; omega), List.getElem_set_self, Int.toNat_natCast, List.drop_set_of_lt (by omega)]
  have hP := vl_lt (h3.take k)
  rw [hPl] at hP
  refine ⟨by simp [hW]; omega, by simpa using h2, Lim_append.2 ⟨h3.take k, Lim_append.2 ⟨hWl, h3.drop _⟩⟩, h4.set k ⟨Int.natCast_nonneg _, Int.ofNat_lt.2 hq⟩, ?_, ?_⟩
  · rw [e4, e5, ← h5, e1, hv]
    have e6 := Nat.mod_add_div X D
    have e7 : Wd ^ k * X = Wd ^ k * (X % D) + D * (Wd ^ k * (X / D)) := by
      rw [Nat.mul_left_comm D, ← Nat.mul_add, e6]
    rw [e7, Nat.mul_add (Wd ^ k), Nat.mul_add D, Nat.pow_succ, Nat.mul_assoc (Wd ^ k) Wd]
    omega
  · rw [e4]
    have h9 : Wd ^ k * (vl Wd W' + 1) ≤ Wd ^ k * D := Nat.mul_le_mul_left _ hr
    rw [Nat.mul_add, Nat.mul_one, Nat.mul_comm (Wd ^ k) D] at h9
    omega
theorem LdInv.start {N M s n m : Nat} {R : List Int} (hR : R.length = n + 1) (hRl : Lim Wd R) (hv : vl Wd R = N * 2 ^ s) (hN : N < Wd ^ n) (hM : Wd ^ (m - 1) ≤ M) (hmn : m ≤ n) (hm : 0 < m) :
    LdInv (N * 2 ^ s) (M * 2 ^ s) n (n - m + 1) (n - m + 1) R (List.replicate (n - m + 1) 0) := by
  refine ⟨hR, by simp, hRl, Lim_replicate Wd0 _, ?_, ?_⟩
  · rw [List.drop_eq_nil_of_le (by simp), vl, Nat.mul_zero, Nat.mul_zero, Nat.add_zero]; exact hv
  · rw [hv, Nat.mul_right_comm]
    refine Nat.mul_lt_mul_of_pos_right ?_ (Nat.two_pow_pos s)
    have h1 : Wd ^ (m - 1) * Wd ^ (n - m + 1) ≤ M * Wd ^ (n - m + 1) := Nat.mul_le_mul_right _ hM
    rw [← Nat.pow_add, show m - 1 + (n - m + 1) = n by omega] at h1
    omega
theorem LdInv.done {N M s n T : Nat} {R Q : List Int} (h : LdInv (N * 2 ^ s) (M * 2 ^ s) n T 0 R Q) : vl Wd Q = N / M ∧ vl Wd R = N % M * 2 ^ s := by
  obtain ⟨h1, h2, h3, h4, h5, h6⟩ := h
  rw [Nat.pow_zero, Nat.mul_one] at h6
  rw [Nat.pow_zero, Nat.one_mul, List.drop_zero, Nat.mul_comm (M * 2 ^ s)] at h5
  obtain ⟨r1, r2⟩ := dw_end h5 h6
  rw [Nat.mul_div_mul_right _ _ (Nat.two_pow_pos s)] at r1
  rw [Nat.mul_mod_mul_right] at r2
  exact ⟨r1, r2⟩
/-- The shifted divisor: its top limb is great, and above it is nothing. -/
theorem ld_divisor {lb W' : List Int} {t : Nat} (hb : Lim Wd lb) (hlb : lb.length = t + 1) (hy : 0 < lb[t].toNat) (hW : W'.length = t + 2) (hWl : Lim Wd W') (hv : vl Wd W' = vl Wd lb * 2 ^ (64 - bl lb[t].toNat)) :
    vl Wd (W'.take (t + 1)) = vl Wd lb * 2 ^ (64 - bl lb[t].toNat) ∧ vl Wd lb * 2 ^ (64 - bl lb[t].toNat) < Wd ^ (t + 1) ∧ (∃ h : t < (W'.take (t + 1)).length, 9223372036854775808 ≤ (W'.take (t + 1))[t]) ∧ Wd ^ t ≤ vl Wd lb := by
  have b1 := hb.get (show t < lb.length by omega)
  have e1 := vl_split Wd lb t (by omega)
  rw [vl_drop_step Wd lb t (by omega), List.drop_eq_nil_of_le (by omega), vl, Nat.mul_zero, Nat.add_zero] at e1
  have l1 := vl_lt (hb.take t)
  rw [List.length_take, Nat.min_eq_left (by omega)] at l1
  have hbl : bl lb[t].toNat ≤ 64 := bl_limb b1
  have hbp : 0 < bl lb[t].toNat := bl_ge (k := 0) (by omega)
  have u1 := lt_bl lb[t].toNat
  have u2 := le_of_bl (n := lb[t].toNat) (k := bl lb[t].toNat - 1) (by omega)
  generalize lb[t].toNat = y at *
  generalize bl y = β at *
  have hs : 2 ^ β * 2 ^ (64 - β) = Wd := by rw [← Nat.pow_add, show β + (64 - β) = 64 by omega]; exact Wd_pow.symm
  have hs2 : 2 ^ (β - 1) * 2 ^ (64 - β) = 9223372036854775808 := by rw [← Nat.pow_add, show β - 1 + (64 - β) = 63 by omega]
  have hlt : vl Wd lb * 2 ^ (64 - β) < Wd ^ (t + 1) := by
    have h1 : vl Wd lb < Wd ^ t * 2 ^ β := by
      have h2 : Wd ^ t * (y + 1) ≤ Wd ^ t * 2 ^ β := Nat.mul_le_mul_left _ u1
      rw [Nat.mul_add, Nat.mul_one] at h2
      omega
    have h3 : vl Wd lb * 2 ^ (64 - β) < Wd ^ t * 2 ^ β * 2 ^ (64 - β) := Nat.mul_lt_mul_of_pos_right h1 (Nat.two_pow_pos _)
    rw [Nat.mul_assoc, hs, ← Nat.pow_succ] at h3
    exact h3
  have hz := zeros_from hWl (j := t + 1) (by rw [hv]; exact hlt)
  have e2 := vl_split Wd W' (t + 1) (by omega)
  rw [hz, Nat.mul_zero, Nat.add_zero] at e2
  refine ⟨by rw [← e2]; exact hv, hlt, ⟨by simp; omega, ?_⟩, ?_⟩
  · have hlen : (W'.take (t + 1)).length = t + 1 := by simp; omega
    have e3 := vl_split Wd (W'.take (t + 1)) t (by omega)
    rw [vl_drop_step Wd _ t (by omega), List.drop_eq_nil_of_le (by omega), vl, Nat.mul_zero] at e3
    simp only [Nat.add_zero] at e3
    have b2 := (hWl.take (t + 1)).get (show t < (W'.take (t + 1)).length by omega)
    have l2 := vl_lt ((hWl.take (t + 1)).take t)
    rw [List.length_take, Nat.min_eq_left (by omega)] at l2
    have h4 : Wd ^ t * 9223372036854775808 ≤ vl Wd (W'.take (t + 1)) := by
      rw [← e2, hv, ← hs2, ← Nat.mul_assoc]
      refine Nat.mul_le_mul_right _ ?_
      have : Wd ^ t * 2 ^ (β - 1) ≤ Wd ^ t * y := Nat.mul_le_mul_left _ u2
      omega
    generalize (W'.take (t + 1))[t] = z at *
    have h5 : Wd ^ t * 9223372036854775808 < Wd ^ t * (z.toNat + 1) := by rw [Nat.mul_add, Nat.mul_one]; omega
    have := Nat.lt_of_mul_lt_mul_left h5
    omega
  · have : Wd ^ t * 1 ≤ Wd ^ t * y := Nat.mul_le_mul_left _ hy
    rw [Nat.mul_one] at this
    omega
theorem ld_divisor' {lb : List Int} {t : Nat} {y : Int} (hb : Lim Wd lb) (hlb : lb.length = t + 1) (htl : t < lb.length) (hye : lb[t] = y) (hy : 0 < y.toNat) : ∀ W' : List Int, W'.length = t + 2 → Lim Wd W' → vl Wd W' = vl Wd lb * 2 ^ (64 - bl y.toNat) →
    vl Wd (W'.take (t + 1)) = vl Wd lb * 2 ^ (64 - bl y.toNat) ∧ vl Wd lb * 2 ^ (64 - bl y.toNat) < Wd ^ (t + 1) ∧ (∃ h : t < (W'.take (t + 1)).length, 9223372036854775808 ≤ (W'.take (t + 1))[t]) ∧ Wd ^ t ≤ vl Wd lb := by
  subst hye
  exact fun W' a b c => ld_divisor hb hlb hy a b c

def LdRel (w : World) (g1 g2 g3 : Nat) (Dl : List Int) (V D n T j : Nat) (wr : World) : Prop :=
  ∃ R Q, LdInv V D n T j R Q ∧ Bk wr g1 Dl ∧ Bk wr g2 R ∧ Bk wr g3 Q ∧ Below w.heap.size w wr
def LdPost (w : World) (N M : Nat) (e : Ending) (w' : World) : Prop :=
  ∃ A n c A2 n2 c2 lq lr, e = .returned (.tuple #[.slice A n c, .slice A2 n2 c2]) ∧ Rd w' w'.heap.size A n c lq ∧ Rd w' w'.heap.size A2 n2 c2 lr ∧ vl Wd lq = N / M ∧ vl Wd lr = N % M ∧ Below w.heap.size w w'

set_option maxHeartbeats 2000000 in
theorem longDivide_any (A A2 : Option Addr) (n c m c2 : Nat) (la lb : List Int) (w : World) (h : Rd w w.heap.size A n c la) (h2 : Rd w w.heap.size A2 m c2 lb) (hn : n ≤ 1099511627776) (hmn : m ≤ n) (t : Nat) (ht : m = t + 1)
    (htl : t < lb.length) (hy : 0 < lb[t].toNat) :
    Calls Tryz.prog 171 #[.slice A n c, .slice A2 m c2] w (LdPost w (vl Wd la) (vl Wd lb)) := by
  have hlb := h2.len
  have hla := h.len
  have hN := vl_lt h.lim
  rw [hla] at hN
  obtain ⟨b2, of2, rfl, hb2, hc2⟩ := h2.at_ (by omega)
  have hc1 := hc2 t htl
  have by_ : Lm lb[t] := h2.lim.get htl
  have hbl := bl_limb by_
  have hbp : 0 < bl lb[t].toNat := bl_ge (k := 0) (by omega)
  generalize hye : lb[t] = y at *
  have hdiv := ld_divisor' h2.lim (by omega : lb.length = t + 1) htl hye hy
  have Hy := Lib.hid hye; clear hye hc2
  obtain ⟨s, hs⟩ : ∃ s, s = 64 - bl y.toNat := ⟨_, rfl⟩
  have hs63 : s ≤ 63 := by omega
  have e0 : (64 : Int) - (bl y.toNat : Int) = s := by omega
  rw [← hs] at hdiv
  have e1 : (m : Int) - 1 = t := by omega
  have hi2 : (t : Int) < m := by omega
  have hmt : m = t + 1 := ht
  have HN := Lib.hid hN; have HLA := Lib.hid hla; have HLB := Lib.hid hlb; have HT := Lib.hid ht; have HS := Lib.hid hs; have HD := Lib.hid hdiv
  clear hN hla hlb ht hs hdiv hy hbl hbp hmt Hy
  obtain ⟨T, hT⟩ : ∃ T, T = n - m + 1 := ⟨_, rfl⟩
  have eT : (n : Int) - m + 1 = T := by omega
  have hTn : T ≤ 1099511627777 := by omega
  have HTT := Lib.hid hT; clear hT
  go_enter Tryz.func171, Tryz.ntmps171
  go_wp2_with fail
  refine (limbLen_any y _ by_).mono ?_
  rintro e w' ⟨rfl, rfl⟩
  go_wp2_with (at_make; refine wp_make64 rfl _ _ rfl (m + 1) _ _ rfl rfl (by simp) (by simp) (by omega) ?_; intro w1 hbk1 hb1)
  refine (shiftUp_any w.heap.size 0 (m + 1) (m + 1) (some ⟨b2, of2, none⟩) m c2 [] (List.replicate (m + 1) 0) [] lb s w1 w.heap.size rfl (by simp) (Lim_replicate Wd0 _) (by omega) (by simpa using hbk1) (h2.below hb1) (Nat.le_refl _) rfl hs63).mono ?_
  rintro e w2 ⟨Dl, rfl, d1, d2, d3, d4, d5⟩
  have hb2' := grow_below hb1 hb1.size d5 (Nat.le_refl _)
  have d1' : Dl.length = t + 2 := by rw [d1]; have := HT.out; simp; omega
  obtain ⟨v1, v2, ⟨v3, v4⟩, v5⟩ := HD.out Dl d1' d2 d3
  simp only [List.nil_append, List.append_nil] at d4
  have HV1 := Lib.hid v1; have HV2 := Lib.hid v2; have HV5 := Lib.hid v5; have HD1 := Lib.hid d1'
  have HV3 := Lib.hid (⟨v3, v4⟩ : ∃ h : t < (Dl.take (t + 1)).length, 9223372036854775808 ≤ (Dl.take (t + 1))[t])
  clear d1 d1' d3 v1 v2 v3 v4 v5 HD hbk1 hb1 d5
  have hg12 := d4.lt
  go_wp2_with (at_make; refine wp_make64 rfl _ _ rfl (n + 1) _ _ rfl rfl (by simp) (by simp) (by omega) ?_; intro w3 hbk3 hb3)
  have hb3' := hb2'.trans (hb3.mono hb2'.size)
  have d43 := d4.below hb3 hg12
  refine (shiftUp_any w2.heap.size 0 (n + 1) (n + 1) A n c [] (List.replicate (n + 1) 0) [] la s w3 w.heap.size rfl (by simp) (Lim_replicate Wd0 _) (by omega) (by simpa using hbk3) (h.below hb3') hb2'.size rfl hs63).mono ?_
  rintro e w4 ⟨R0, rfl, r1, r2, r3, r4, r5⟩
  simp only [List.nil_append, List.append_nil] at r4
  have hb4 := grow_below hb3' hb3'.size r5 hb2'.size
  have d44 := d43.grown r5 (by intro e; injection e with e; omega)
  have hs4 := r5.size
  have hg24 := r4.lt
  have HR1 := Lib.hid (show R0.length = n + 1 by rw [r1]; simp); have HR3 := Lib.hid r3
  clear r1 r3 hbk3 d43 r5 hb3 hb3' hb2' d4
  go_wp2_with (at_make; refine wp_make64 rfl _ _ rfl T _ _ rfl rfl (by omega) (by omega) (by omega) ?_; intro w5 hbk5 hb5)
  have hb5' := hb4.trans (hb5.mono hb4.size)
  have d45 := d44.below hb5 d44.lt
  have r45 := r4.below hb5 hg24
  have hg35 := hbk5.lt
  have hinit : LdRel w w.heap.size w2.heap.size w4.heap.size Dl (vl Wd la * 2 ^ s) (vl Wd lb * 2 ^ s) n T T w5 := by
    refine ⟨R0, List.replicate T 0, ?_, d45, r45, hbk5, hb5'⟩
    have := LdInv.start (m := m) HR1.out r2 HR3.out HN.out (by have := HT.out; rw [this]; exact HV5.out) hmn (by have := HT.out; omega)
    rw [← HTT.out] at this
    exact this
  clear hb5' d45 r45 hbk5 d44 r4 hb4 hb5 r2
  generalize hg2 : w2.heap.size = g2 at *
  generalize hg3 : w4.heap.size = g3 at *
  have Hg2 := Lib.hid hg2; have Hg3 := Lib.hid hg3; clear hg2 hg3
  have hg23 : g2 < g3 := hg24
  clear hg24 hs4
  go_loopw [10, 11, 12, 51] (fun _ _ _ i wr => ∃ k : Nat, k ≤ T ∧ i = .int .i64 k ∧ LdRel w w.heap.size g2 g3 Dl (vl Wd la * 2 ^ s) (vl Wd lb * 2 ^ s) n T (T - k) wr) (fun _ _ _ i _ => T - (intOf i).toNat)
  case atStart => exact ⟨0, Nat.zero_le _, rfl, hinit⟩
  case round =>
    clear hinit
    obtain ⟨i, hi, rfl, R, Q, hinv, k1, k2, k3, k4⟩ := hrel
    by_cases hiT : i < T
    · obtain ⟨k, hk⟩ : ∃ k, T = k + 1 + i := ⟨T - 1 - i, by omega⟩
      have hik : T - i = k + 1 := by omega
      have hik2 : T - (i + 1) = k := by omega
      rw [hik] at hinv
      obtain ⟨E, hE⟩ : ∃ E, E = k + m + 1 := ⟨_, rfl⟩
      have hRl := hinv.1
      have hQl := hinv.2.1
      have eK : (T : Int) - 1 - i = k := by omega
      have eE : (k : Int) + m + 1 = E := by omega
      have hkE : k ≤ E := by omega
      have hEn : E ≤ n + 1 := by have := HTT.out; omega
      have hEk : ¬ E = k := by omega
      have hkT : k < T := by omega
      have HV2' : vl Wd lb * 2 ^ s < Wd ^ m := by have := HT.out; rw [this]; exact HV2.out
      obtain ⟨u1, u2, u3⟩ := hinv.win HV2'
      have hlk : (R.take k).length = k := by simp; omega
      have hlW : ((R.drop k).take (m + 1)).length = E - k := by simp; omega
      have hlW2 : ((R.drop k).take (m + 1)).length = m + 1 := by omega
      have hR4 : Bk wr g2 (R.take k ++ ((R.drop k).take (m + 1) ++ R.drop (k + (m + 1)))) := by rw [← cut3]; exact k2
      have hDr : Rd wr g2 (some ⟨w.heap.size, 0, none⟩) m (m + 1) (Dl.take (t + 1)) := by
        have := k1.rd (B := g2) (off := 0) (n := m) (c := m + 1) hg12 (by have := HD1.out; have := HT.out; omega) (by omega) (by omega) d2
        rw [List.drop_zero, HT.out] at this
        rw [HT.out]
        exact this
      have hsl : vl Wd ((R.drop k).take (m + 1)) < Wd * vl Wd (Dl.take (t + 1)) := by rw [HV1.out]; exact u3 (by omega)
      have hst := fun W' (a : W'.length = m + 1) (b : Lim Wd W') (c : vl Wd W' = _) => hinv.next HV2' (by omega) hkT a b c
      have hlimR := hinv.2.2.1
      have hkQ : k < Q.length := by omega
      have HA := Lib.hid hlk; have HB := Lib.hid hlW; have HC := Lib.hid hlW2; have HST := Lib.hid hst; have HQ := Lib.hid hQl; have HK := Lib.hid hik2; have HE := Lib.hid hE
      have HSL := Lib.hid hsl
      clear hlk hlW hlW2 hst hQl hik2 hE hik u1 u2 u3 hRl hsl hk HV2'
      obtain ⟨hv3, hv4⟩ := HV3.out
      go_wp2_with fail
      refine (divideWindow_any g2 k (E - k) (E - k) (some ⟨w.heap.size, 0, none⟩) m (m + 1) (R.take k) ((R.drop k).take (m + 1)) (R.drop (k + (m + 1))) (Dl.take (t + 1)) wr g2 HA.out HB.out ((hlimR.drop k).take _) (by omega) hR4 hDr (Nat.le_refl _) (by have := HE.out; omega) t HT.out hv3 hv4 HSL.out).mono ?_
      rintro e w6 ⟨W', rfl, q1, q2, q3, q4, q5⟩
      have hq := HST.out W' (by rw [q1]; exact HC.out) q2 (by rw [q3, HV1.out])
      rw [← HV1.out] at hq
      generalize hqv : vl Wd ((R.drop k).take (m + 1)) / vl Wd (Dl.take (t + 1)) = qv at *
      have Hqv := Lib.hid hqv
      have k36 := k3.grown q5 (by intro e; injection e with e; omega)
      have k16 := k1.grown q5 (by intro e; injection e with e; omega)
      have hcQ := k36.cell k hkQ
      have hfQ := k36.frozen k
      have hb6 := grow_below k4 k4.size q5 (by omega)
      have RR : LdRel w w.heap.size g2 g3 Dl (vl Wd la * 2 ^ s) (vl Wd lb * 2 ^ s) n T (T - (i + 1)) (w6.setCell ⟨g3, k, none⟩ (.int .u64 (qv : Int))) := by
        rw [HK.out]
        refine ⟨_, _, ?_, k16.far (by show w.heap.size ≠ g3; omega) _, q4.far (by show g2 ≠ g3; omega) _, k36.set k _, hb6.setCell (by show w.heap.size ≤ g3; omega) _⟩
        rw [HV1.out] at hq
        exact hq
      generalize hqk : Q[k] = zq at hcQ
      clear hq hqv q1 q3 q4 q5 k36 k16 hb6 k1 k2 k3 k4 hqk hR4 hDr hinv
      go_wp2
      go_roundw
      case rel => exact ⟨i + 1, by omega, by go_num, RR⟩
      case measure => simp [intOf]; omega
    · obtain rfl : T = i := by omega
      rw [Nat.sub_self] at hinv
      obtain ⟨u1, u2⟩ := hinv.done
      have hRl := hinv.1
      have hQl := hinv.2.1
      have hlimR := hinv.2.2.1
      have hlimQ := hinv.2.2.2.1
      have hlt6 := hinv.2.2.2.2.2
      rw [Nat.pow_zero, Nat.mul_one] at hlt6
      have hlt7 : vl Wd R < Wd ^ m := by have := HT.out; rw [this]; exact Nat.lt_trans hlt6 HV2.out
      have hz := zeros_from hlimR hlt7
      have hsp := vl_split Wd R m (by omega)
      rw [hz, Nat.mul_zero, Nat.add_zero] at hsp
      have H1 := Lib.hid u1; have H2 := Lib.hid u2; have H3 := Lib.hid hRl; have H4 := Lib.hid hQl; have H5 := Lib.hid hsp
      clear u1 u2 hRl hQl hlt6 hlt7 hz hsp hinv hi hiT
      go_wp2_with (at_make; refine wp_make64 rfl _ _ rfl m _ _ rfl rfl rfl rfl (by omega) ?_; intro w7 hbk7 hb7)
      have hb7' := k4.trans (hb7.mono k4.size)
      have k27 := k2.below hb7 k2.lt
      have k37 := k3.below hb7 k3.lt
      have hRr : Rd w7 wr.heap.size (some ⟨g2, 0, none⟩) m (n + 1) (R.take m) := by
        have := k27.rd (B := wr.heap.size) (off := 0) (n := m) (c := n + 1) k2.lt (by have := H3.out; omega) (by omega) (by omega) hlimR
        rw [List.drop_zero] at this
        exact this
      refine (shiftDown_any wr.heap.size 0 m m (some ⟨g2, 0, none⟩) (n + 1) [] (List.replicate m 0) [] (R.take m) s w7 wr.heap.size rfl (by simp) (Lim_replicate Wd0 _) (by omega) (by simpa using hbk7) hRr (Nat.le_refl _) hs63).mono ?_
      rintro e w8 ⟨lr, rfl, z1, z2, z3, z4, z5⟩
      simp only [List.nil_append, List.append_nil] at z4
      have hb8 := grow_below hb7' hb7'.size z5 k4.size
      have k38 := k37.grown z5 (by intro e; injection e with e; have := k3.lt; omega)
      have hv8 : vl Wd lr = vl Wd la % vl Wd lb := by rw [z3, ← H5.out, H2.out, Nat.mul_div_cancel _ (Nat.two_pow_pos s)]
      have hq8 := k38.whole (B := w8.heap.size) (n := T) (c := T) k38.lt H4.out (Nat.le_refl _) (by omega) hlimQ
      have hr8 := z4.whole (B := w8.heap.size) (n := m) (c := m) z4.lt (by rw [z1]; simp) (Nat.le_refl _) (by omega) z2
      have H8 := Lib.hid hv8
      clear hv8 z1 z3
      go_wp2
      go_ret2
      exact ⟨_, _, _, _, _, _, Q, lr, rfl, hq8, hr8, H1.out, H8.out, hb8⟩
end
end Go.Proofs.YtbpamkpclofnbaaGreat
namespace Go.Proofs.YtbpamkpclofnbaaGreat
section
set_option maxRecDepth 100000
open Go.RowKit
set_option linter.unusedVariables false

/-- A number of one limb in block g, trimmed. -/
def one1 (g : Nat) (x : Int) : Value := if x = 0 then .slice none 0 0 else .slice (some ⟨g, 0, none⟩) 1 1
theorem one_rd {w : World} {g : Nat} {x : Int} (hx : Lm x) (hc : w.cell? ⟨g, 0, none⟩ = some (.int .u64 x)) : Rd w (g + 1) (some ⟨g, 0, none⟩) 1 1 [x] := by
  refine ⟨rfl, Nat.le_refl _, by omega, fun y hy => ?_, fun _ => ⟨g, 0, rfl, by omega, fun k hk => ?_⟩⟩
  · simp at hy; subst hy; exact hx
  · simp at hk; subst hk; simpa using hc
theorem dg_one {x : Int} (hx : Lm x) : dg Wd x.toNat = if x = 0 then [] else [x] := by
  split
  · rename_i h; subst h; exact dg_zero Wd
  · rename_i h
    have := dg_of Wd2 (l := [x]) (fun y hy => by simp at hy; subst hy; exact hx) (fun y hy => by simp at hy; subst hy; exact h)
    simp [vl] at this
    exact this
theorem trim_one (g : Nat) (x : Int) (w : World) (hx : Lm x) (hc : w.cell? ⟨g, 0, none⟩ = some (.int .u64 x)) :
    Calls Tryz.prog 153 #[.slice (some ⟨g, 0, none⟩) 1 1] w fun e w' => e = .returned (one1 g x) ∧ w = w' := by
  by_cases h0 : x = 0
  · subst h0
    go_enter Tryz.func153, Tryz.ntmps153
    go_wp2
    refine wp_loop_rounds 2 ?_
    rw [rounds_succ]
    go_wp2
    rw [rounds_succ]
    go_wp2
    go_ret
    exact ⟨rfl, rfl⟩
  · have hb : (x == 0) = false := by simpa using h0
    go_enter Tryz.func153, Tryz.ntmps153
    go_wp2
    refine wp_loop_rounds 1 ?_
    rw [rounds_succ]
    go_wp2
    go_ret
    exact ⟨by unfold one1; rw [if_neg h0]; rfl, rfl⟩

def DmPost (w : World) (N M : Nat) (e : Ending) (w' : World) : Prop :=
  ∃ A n c A2 n2 c2, e = .returned (.tuple #[.slice A n c, .slice A2 n2 c2, .bool true]) ∧ Rd w' w'.heap.size A n c (dg Wd (N / M)) ∧ Rd w' w'.heap.size A2 n2 c2 (dg Wd (N % M)) ∧ Below w.heap.size w w'

theorem one_val {N : Nat} (h : (dg Wd N).length = 1) (hk : 0 < (dg Wd N).length) : N = (dg Wd N)[0].toNat := by
  have h1 := vl_dg Wd2 N
  have h2 := vl_split Wd (dg Wd N) 0 (by omega)
  rw [vl_drop_step Wd _ 0 hk, List.drop_eq_nil_of_le (by omega)] at h2
  simp [vl] at h2
  omega
theorem one_divmod {x y q r : Int} (hx : 0 ≤ x ∧ x < (Wd : Int)) (hy : 0 ≤ y ∧ y < (Wd : Int)) (hy1 : 0 < y) (hq : IntKind.u64.wrap (x.tdiv y) = q) (hr : x.tmod y = r) :
    Lm q ∧ Lm r ∧ q.toNat = x.toNat / y.toNat ∧ r.toNat = x.toNat % y.toNat := by
  obtain ⟨a, rfl⟩ := Int.eq_ofNat_of_zero_le hx.1
  obtain ⟨b, rfl⟩ := Int.eq_ofNat_of_zero_le hy.1
  rw [Int.tdiv_eq_ediv_of_nonneg hx.1, ← Int.natCast_ediv] at hq
  rw [Int.tmod_eq_emod_of_nonneg hx.1, ← Int.natCast_emod] at hr
  have h1 : a / b ≤ a := Nat.div_le_self _ _
  have h2 : a % b ≤ a := Nat.mod_le _ _
  have hW := Wd_eq
  have e : IntKind.u64.wrap ((a / b : Nat) : Int) = ((a / b : Nat) : Int) := by
    generalize a / b = d at *
    rw [wrap_u64]; omega
  rw [e] at hq
  rw [← hq, ← hr, Int.toNat_natCast, Int.toNat_natCast, Int.toNat_natCast, Int.toNat_natCast]
  have ha : a < Wd := by omega
  exact ⟨⟨Int.natCast_nonneg _, Int.ofNat_lt.2 (Nat.lt_of_le_of_lt h1 ha)⟩, ⟨Int.natCast_nonneg _, Int.ofNat_lt.2 (Nat.lt_of_le_of_lt h2 ha)⟩, rfl, rfl⟩

theorem one_out {w : World} {g : Nat} {x : Int} (hx : Lm x) (hc : w.cell? ⟨g, 0, none⟩ = some (.int .u64 x)) : ∃ A n c, one1 g x = .slice A n c ∧ Rd w w.heap.size A n c (dg Wd x.toNat) := by
  rw [dg_one hx]
  unfold one1
  split
  · exact ⟨_, _, _, rfl, Rd.nil⟩
  · exact ⟨_, _, _, rfl, (one_rd hx hc).more (World.block_lt_of_cell? w _ hc)⟩
theorem dm_one {w w' : World} {g1 g2 : Nat} {q r : Int} {N M : Nat} (hq : Lm q) (hr : Lm r) (vq : q.toNat = N / M) (vr : r.toNat = N % M) (c1 : w'.cell? ⟨g1, 0, none⟩ = some (.int .u64 q)) (c2 : w'.cell? ⟨g2, 0, none⟩ = some (.int .u64 r))
    (hb : Below w.heap.size w w') : DmPost w N M (.returned (.tuple #[one1 g1 q, one1 g2 r, .bool true])) w' := by
  obtain ⟨A, n, c, e1, r1⟩ := one_out hq c1
  obtain ⟨A2, n2, c2', e2, r2⟩ := one_out hr c2
  rw [e1, e2]
  exact ⟨_, _, _, _, _, _, rfl, vq ▸ r1, vr ▸ r2, hb⟩

set_option maxHeartbeats 2000000 in
theorem DivMod_any (A A2 : Option Addr) (n c n2 c2 : Nat) (l m : List Int) (w : World) (h : Rd w w.heap.size A n c l) (h2 : Rd w w.heap.size A2 n2 c2 m) (hn : n ≤ 1099511627776) (hM0 : 0 < vl Wd m) :
    Calls Tryz.prog 150 #[.slice A n c, .slice A2 n2 c2] w (DmPost w (vl Wd l) (vl Wd m)) := by
  have hNn := dg_len_le Wd2 (h.len ▸ vl_lt h.lim : vl Wd l < Wd ^ n)
  generalize hN : vl Wd l = N at *
  generalize hM : vl Wd m = M at *
  have HN := Lib.hid hN; clear hN
  have HM := Lib.hid hM; clear hM
  go_enter Tryz.func150, Tryz.ntmps150
  go_wp2_with fail
  refine (trim_any _ _ _ _ _ _ h).mono ?_
  rintro e w' ⟨A', n', c', rfl, hrd, rfl⟩
  go_wp2_with fail
  refine (trim_any _ _ _ _ _ _ h2).mono ?_
  rintro e w' ⟨A2', n2', c2', rfl, hrd2, rfl⟩
  rw [HN.out] at hrd
  rw [HM.out] at hrd2
  clear h h2
  have H := Lib.hid hrd.len
  have H2 := Lib.hid hrd2.len
  have hs1 : n' ≤ 1099511627776 := by have := H.out; omega
  have hpos : 0 < n2' := by
    rcases Nat.eq_zero_or_pos n2' with h0 | h0
    · have := (dg_eq_nil Wd2).1 (List.eq_nil_of_length_eq_zero (H2.out.trans h0)); omega
    · exact h0
  have hb0 : ((n2' : Int) == 0) = false := by simp; omega
  by_cases hlt : n' < n2'
  · go_wp2_with fail
    refine (Norm_any _ _ _ _ _ _ hrd (Nat.le_refl _)).mono ?_
    rintro e w1 ⟨A3, n3, c3, rfl, hr3, hb3⟩
    have hNM : N < M := len_lt Wd2 (by rw [H.out, H2.out]; exact hlt)
    rw [vl_dg Wd2] at hr3
    go_wp2
    go_ret3
    exact ⟨_, _, _, _, _, _, rfl, by rw [Nat.div_eq_of_lt hNM, dg_zero]; exact Rd.nil, by rw [Nat.mod_eq_of_lt hNM]; exact hr3, hb3⟩
  · by_cases h1 : n' = 1
    · subst h1
      obtain rfl : 1 = n2' := by omega
      obtain ⟨b, of, rfl, hb, hc⟩ := hrd.at_ (by omega)
      obtain ⟨b2, of2, rfl, hb2, hc2⟩ := hrd2.at_ (by omega)
      have hk1 : 0 < (dg Wd N).length := by have := H.out; omega
      have hk2 : 0 < (dg Wd M).length := by have := H2.out; omega
      have c1 := hc 0 hk1
      have c2' := hc2 0 hk2
      have bx := (Lim_dg Wd2 N).get hk1
      have by_ := (Lim_dg Wd2 M).get hk2
      have vx := one_val H.out hk1
      have vy := one_val H2.out hk2
      generalize (dg Wd N)[0] = x at *
      generalize (dg Wd M)[0] = y at *
      have hx0 : 0 ≤ x := bx.1
      have hy0 : ¬ y = 0 := by omega
      have hy1 : 0 < y := by have := by_.1; omega
      have HVX := Lib.hid vx; have HVY := Lib.hid vy
      have c1' : w.cell? ⟨b, of, none⟩ = _ := c1
      have c2'' : w.cell? ⟨b2, of2, none⟩ = _ := c2'
      obtain ⟨q, hq⟩ : ∃ q, IntKind.u64.wrap (x.tdiv y) = q := ⟨_, rfl⟩
      obtain ⟨r, hr⟩ : ∃ r, x.tmod y = r := ⟨_, rfl⟩
      obtain ⟨lq, lr, vq, vr⟩ := one_divmod bx by_ hy1 hq hr
      rw [← HVX.out, ← HVY.out] at vq vr
      have HQ := Lib.hid vq; have HR := Lib.hid vr
      clear vx vy hc hc2 c1 c2' vq vr bx by_
      go_wp2
      go_region_held3 (fun w' => w'.cell? ⟨b, of, none⟩ = some (.int .u64 x) ∧ w'.cell? ⟨b2, of2, none⟩ = some (.int .u64 y)) (go_keep)
        (first | (go_at_call 153; refine (trim_one _ q _ lq ?_).mono ?_; (focus (simp; done)); rintro e w' ⟨rfl, rfl⟩) | (go_at_call 153; refine (trim_one _ r _ lr ?_).mono ?_; (focus (simp; done)); rintro e w' ⟨rfl, rfl⟩))
      all_goals go_wp2
      all_goals go_ret3
      all_goals first
        | exact dm_one (g1 := w.heap.size) (g2 := w.heap.size + 1) lq lr HQ.out HR.out (by simp) (by simp) (((Below.refl _ _).alloc (Nat.le_refl _) _).alloc (by simp) _).drew
        | exact dm_one (g1 := w.heap.size + 1) (g2 := w.heap.size) lq lr HQ.out HR.out (by simp) (by simp) (((Below.refl _ _).alloc (Nat.le_refl _) _).alloc (by simp) _).drew
    · have h1' : ((n' : Int) == 1) = false := by simp; omega
      obtain ⟨t, ht⟩ : ∃ t, n2' = t + 1 := ⟨n2' - 1, by omega⟩
      have htl : t < (dg Wd M).length := by have := H2.out; omega
      have hy : 0 < (dg Wd M)[t].toNat := by
        have h5 := dg_last Wd2 (n := M) (by omega)
        have h6 := (Lim_dg Wd2 M).get htl
        have h7 : (dg Wd M).length - 1 = t := by have := H2.out; omega
        simp only [h7] at h5
        omega
      have HT := Lib.hid ht; clear ht
      go_wp2_with fail
      refine (longDivide_any _ _ _ _ _ _ _ _ _ hrd hrd2 hs1 (by omega) t HT.out htl hy).mono ?_
      rintro e w1 ⟨A3, n3, c3, A4, n4, c4, lq, lr, rfl, z1, z2, z3, z4, z5⟩
      rw [vl_dg Wd2, vl_dg Wd2] at z3 z4
      have HZ3 := Lib.hid z3; have HZ4 := Lib.hid z4; clear z3 z4 hy
      go_wp2_with fail
      refine (trim_any _ _ _ _ _ _ z1).mono ?_
      rintro e w' ⟨A5, n5, c5, rfl, y1, rfl⟩
      go_wp2_with fail
      refine (trim_any _ _ _ _ _ _ z2).mono ?_
      rintro e w' ⟨A6, n6, c6, rfl, y2, rfl⟩
      rw [HZ3.out] at y1
      rw [HZ4.out] at y2
      go_wp2
      go_ret3
      exact ⟨_, _, _, _, _, _, rfl, y1, y2, z5⟩

end
end Go.Proofs.YtbpamkpclofnbaaGreat
namespace Go.Proofs.YtbpamkpclofnbaaGreat
section
set_option maxRecDepth 100000
open Go.RowKit
set_option linter.unusedVariables false

theorem Wd_pow_k (t : Nat) : Wd ^ t = 2 ^ (64 * t) := by rw [Wd_pow, ← Nat.pow_mul]
theorem bl_top {N t : Nat} (hl : (dg Wd N).length = t + 1) (ht : t < (dg Wd N).length) : bl N = t * 64 + bl (dg Wd N)[t].toNat := by
  have e1 := vl_split Wd (dg Wd N) t (by omega)
  rw [vl_drop_step Wd _ t ht, List.drop_eq_nil_of_le (by omega), vl_dg Wd2, vl, Nat.mul_zero, Nat.add_zero] at e1
  have l1 := vl_lt ((Lim_dg Wd2 N).take t)
  rw [List.length_take, Nat.min_eq_left (by omega)] at l1
  have b1 := (Lim_dg Wd2 N).get ht
  have hy := dg_last Wd2 (n := N) (by omega)
  have h7 : (dg Wd N).length - 1 = t := by omega
  simp only [h7] at hy
  generalize (dg Wd N)[t] = y at *
  have hyp : 0 < bl y.toNat := bl_ge (k := 0) (by omega)
  have u1 := lt_bl y.toNat
  have u2 := le_of_bl (n := y.toNat) (k := bl y.toNat - 1) (by omega)
  generalize y.toNat = z at *
  generalize bl z = β at *
  refine bl_eq ?_ (fun _ => ?_)
  · rw [Nat.add_comm, Nat.pow_add, Nat.mul_comm t 64, ← Wd_pow_k]
    have h1 : Wd ^ t * (z + 1) ≤ Wd ^ t * 2 ^ β := Nat.mul_le_mul_left _ u1
    rw [Nat.mul_add, Nat.mul_one] at h1
    rw [Nat.mul_comm]
    omega
  · rw [show t * 64 + β - 1 = 64 * t + (β - 1) by omega, Nat.pow_add, ← Wd_pow_k]
    have h1 : Wd ^ t * 2 ^ (β - 1) ≤ Wd ^ t * z := Nat.mul_le_mul_left _ u2
    omega

set_option maxHeartbeats 1000000 in
theorem BitLen_any (A : Option Addr) (n c : Nat) (l : List Int) (w : World) (B : Nat) (h : Rd w B A n c l) :
    Calls Tryz.prog 122 #[.slice A n c] w fun e w' => e = .returned (.int .i64 (bl (vl Wd l))) ∧ w = w' := by
  generalize hN : vl Wd l = N at *
  have HN := Lib.hid hN; clear hN
  go_enter Tryz.func122, Tryz.ntmps122
  go_wp2_with fail
  refine (trim_any _ _ _ _ _ _ h).mono ?_
  rintro e w' ⟨A', n', c', rfl, hrd, rfl⟩
  rw [HN.out] at hrd
  have hcap := hrd.cap
  have hbig := hrd.big
  have H := Lib.hid hrd.len
  rcases n' with _ | t
  · have : N = 0 := (dg_eq_nil Wd2).1 (List.eq_nil_of_length_eq_zero H.out)
    subst this
    go_wp2
    go_ret
    exact ⟨ret_i64 (by rw [bl_zero]; rfl), rfl⟩
  · obtain ⟨b, of, rfl, hb, hc⟩ := hrd.at_ (by omega)
    have htl : t < (dg Wd N).length := by have := H.out; omega
    have hct := hc t htl
    have by_ : Lm (dg Wd N)[t] := (Lim_dg Wd2 N).get htl
    have hv := bl_top H.out htl
    clear hc
    generalize (dg Wd N)[t] = y at *
    have hbl := bl_limb by_
    have HV := Lib.hid hv; clear hv
    have hb0 : ((↑(t + 1) : Int) == 0) = false := by simp; omega
    go_wp2_with fail
    refine (limbLen_any y _ by_).mono ?_
    rintro e w' ⟨rfl, rfl⟩
    generalize hβ : bl y.toNat = β at *
    have Hβ := Lib.hid hβ; clear hβ
    go_wp2
    go_ret
    exact ⟨ret_i64 (by rw [HV.out]; simp), rfl⟩

/-- The number of places that counts. -/
def sc (n : Int) : Nat := (min (max n 0) 8192).toNat
end
end Go.Proofs.YtbpamkpclofnbaaGreat
namespace Go.Proofs.YtbpamkpclofnbaaGreat
section
set_option maxRecDepth 100000
open Go.RowKit
set_option linter.unusedVariables false

def byteV (b : UInt8) : Value := .int .u8 (b.toNat : Int)
/-- Block g holds just the bytes l. -/
def Bk8 (w : World) (g : Nat) (l : List UInt8) : Prop := w.heap[g]? = some (.cells (l.map byteV).toArray 5 (0, 0))
section
variable {w w' : World} {g : Nat} {l : List UInt8}
theorem Bk8.lt (h : Bk8 w g l) : g < w.heap.size := by
  rcases Nat.lt_or_ge g w.heap.size with hlt | hge
  · exact hlt
  · unfold Bk8 at h; rw [Array.getElem?_eq_none hge] at h; cases h
theorem Bk8.cell (h : Bk8 w g l) (i : Nat) (hi : i < l.length) : w.cell? ⟨g, i, none⟩ = some (.int .u8 (l[i].toNat : Int)) := by
  rw [cell_of_row w g i _ 5 (0, 0) h]; simp [hi, byteV]
theorem Bk8.frozen (h : Bk8 w g l) (i : Nat) : w.frozen? ⟨g, i, none⟩ = false := by
  unfold Bk8 at h
  simp [World.frozen?, h]
theorem Bk8.set (h : Bk8 w g l) (i : Nat) (x : UInt8) : Bk8 (w.setCell ⟨g, i, none⟩ (.int .u8 (x.toNat : Int))) g (l.set i x) := by
  unfold Bk8 at h ⊢
  simp [World.setCell, Array.getElem?_modify, h, List.map_set, byteV]
theorem Bk8.below {B : Nat} (h : Bk8 w g l) (hb : Below B w w') (hg : g < B) : Bk8 w' g l := (hb.block g hg).trans h
end
end
end Go.Proofs.YtbpamkpclofnbaaGreat
namespace Go.Proofs.YtbpamkpclofnbaaGreat
section
set_option maxRecDepth 100000
open Go.RowKit
set_option linter.unusedVariables false

theorem vl_one (x : Int) : vl Wd [x] = x.toNat := by simp [vl]

theorem lm_small {x : Int} (h0 : 0 ≤ x) (h1 : x < 18446744073709551616) : Lm x := by unfold Lm; rw [Wd_eq]; omega
end
end Go.Proofs.YtbpamkpclofnbaaGreat
namespace Go.Proofs.YtbpamkpclofnbaaGreat
section
set_option maxRecDepth 100000
open Go.RowKit
set_option linter.unusedVariables false

/-- A number of at most k limbs. -/
def Sm (N k : Nat) : Prop := N < Wd ^ k
theorem Sm.of {w : World} {B n c k : Nat} {A : Option Addr} {l : List Int} (h : Rd w B A n c l) (hn : n ≤ k) : Sm (vl Wd l) k := by
  have := vl_lt h.lim
  rw [h.len] at this
  exact Nat.lt_of_lt_of_le this (Nat.pow_le_pow_right Wd0 hn)
theorem Sm.add {N M k : Nat} (h : Sm N k) (h2 : Sm M k) : Sm (N + M) (k + 1) := by
  unfold Sm at *
  rw [Nat.pow_succ]
  have : Wd ^ k * 2 ≤ Wd ^ k * Wd := Nat.mul_le_mul_left _ Wd2
  generalize Wd ^ k * Wd = r at *
  generalize Wd ^ k = q at *
  omega
theorem Sm.mul {N M j k : Nat} (h : Sm N j) (h2 : Sm M k) : Sm (N * M) (j + k) := by
  unfold Sm at *
  rw [Nat.pow_add]
  exact Nat.mul_lt_mul'' h h2
theorem Sm.mono {N j k : Nat} (h : Sm N j) (hk : j ≤ k) : Sm N k := Nat.lt_of_lt_of_le h (Nat.pow_le_pow_right Wd0 hk)
theorem Sm.le {N M k : Nat} (h : Sm N k) (hM : M ≤ N) : Sm M k := Nat.lt_of_le_of_lt hM h
theorem Rd.small {w : World} {B n c k N : Nat} {A : Option Addr} (h : Rd w B A n c (dg Wd N)) (hN : Sm N k) : n ≤ k := by
  rw [← h.len]
  exact dg_len_le Wd2 hN
theorem Quiet.bel {w w' : World} (h : Quiet w w') : Below w.heap.size w w' := h.below
end
end Go.Proofs.YtbpamkpclofnbaaGreat
