/-
  divideHalf, guessQuotient.
-/
import Derived.Test.YtcoidcbbdibnaaaDoorShift
namespace Go.Proofs.YtcoidcbbdibnaaaDoor
open Go.RowKit
set_option linter.unusedVariables false

def hfQ (hi lo d : Int) : Int := (hi * 4294967296 + lo) / d
def hfR (hi lo d : Int) : Int := (hi * 4294967296 + lo) % d

def HfPre (hi lo d d0 d1 : Int) : Prop := 0 ≤ hi ∧ hi < d ∧ 0 ≤ lo ∧ lo < 4294967296 ∧ 2147483648 ≤ d1 ∧ d1 < 4294967296 ∧ 0 ≤ d0 ∧ d0 < 4294967296 ∧ d = d1 * 4294967296 + d0
def HfInv (hi lo d d1 g r : Int) : Prop := hi = g * d1 + r ∧ 0 ≤ g ∧ 0 ≤ r ∧ g ≤ 4294967297 ∧ r ≤ 8589934592 ∧ (4294967296 ≤ r → g ≤ 4294967296) ∧ hfQ hi lo d ≤ g

theorem hfQ_lt {hi lo d d0 d1 : Int} (h : HfPre hi lo d d0 d1) : 0 ≤ hfQ hi lo d ∧ hfQ hi lo d < 4294967296 := by
  obtain ⟨h1, h2, h3, h4, h5, h6, h7, h8, h9⟩ := h
  have hd : 0 < d := by omega
  refine ⟨Int.ediv_nonneg (by omega) (by omega), ?_⟩
  exact Int.ediv_lt_of_lt_mul hd (by omega)
theorem gd {d d0 d1 g : Int} (h : d = d1 * 4294967296 + d0) : g * d = g * d1 * 4294967296 + g * d0 := by rw [h, Int.mul_add, Int.mul_assoc]
theorem HfInv.start {hi lo d d0 d1 : Int} (h : HfPre hi lo d d0 d1) : HfInv hi lo d d1 (IntKind.u64.wrap (hi.tdiv d1)) (hi % d1) ∧ 0 ≤ IntKind.u64.wrap (hi.tdiv d1) := by
  have hp := h
  obtain ⟨h1, h2, h3, h4, h5, h6, h7, h8, h9⟩ := h
  have e1 : hi.tdiv d1 = hi / d1 := Int.tdiv_eq_ediv_of_nonneg h1
  have b0 : 0 ≤ hi / d1 := Int.ediv_nonneg h1 (by omega)
  have b1 : hi / d1 < 4294967298 := Int.ediv_lt_of_lt_mul (by omega) (by omega)
  have e2 : IntKind.u64.wrap (hi.tdiv d1) = hi / d1 := by rw [e1, wrap_u64]; omega
  rw [e2]
  have e3 := Int.mul_ediv_add_emod hi d1
  have b2 := Int.emod_nonneg hi (show d1 ≠ 0 by omega)
  have b3 := Int.emod_lt_of_pos hi (show 0 < d1 by omega)
  refine ⟨⟨by rw [Int.mul_comm]; exact e3.symm, b0, b2, by omega, by omega, by omega, ?_⟩, b0⟩
  have hq : hfQ hi lo d < hi / d1 + 1 := by
    refine Int.ediv_lt_of_lt_mul (by omega) ?_
    rw [gd h9, Int.add_mul (hi / d1) 1 d1, Int.one_mul, Int.add_mul]
    have : 0 ≤ (hi / d1 + 1) * d0 := Int.mul_nonneg (by omega) h7
    rw [Int.mul_comm] at e3
    omega
  omega
theorem HfInv.dec {hi lo d d0 d1 g r : Int} (hp : HfPre hi lo d d0 d1) (h : HfInv hi lo d d1 g r) (hr : r ≤ 4294967295) (hc : 4294967295 < g ∨ (g ≤ 4294967295 ∧ r * 4294967296 + lo < g * d0)) :
    HfInv hi lo d d1 (IntKind.u64.wrap (g - 1)) (IntKind.u64.wrap (r + d1)) ∧ (intOf (.int .u64 (IntKind.u64.wrap (g - 1)))).toNat < (intOf (.int .u64 g)).toNat := by
  have hq := hfQ_lt hp
  obtain ⟨h1, h2, h3, h4, h5, h6, h7, h8, h9⟩ := hp
  obtain ⟨i1, i2, i3, i4, i5, i6, i7⟩ := h
  have hlt : hfQ hi lo d < g := by
    rcases hc with hc | ⟨hc1, hc2⟩
    · omega
    · refine Int.ediv_lt_of_lt_mul (by omega) ?_
      rw [gd h9]
      omega
  have e1 : IntKind.u64.wrap (g - 1) = g - 1 := by rw [wrap_u64]; omega
  have e2 : IntKind.u64.wrap (r + d1) = r + d1 := by rw [wrap_u64]; omega
  rw [e1, e2]
  refine ⟨⟨by rw [Int.sub_mul, Int.one_mul]; omega, by omega, by omega, by omega, by omega, by omega, by omega⟩, ?_⟩
  simp [intOf]; omega
theorem HfInv.exit {hi lo d d0 d1 g r : Int} (hp : HfPre hi lo d d0 d1) (h : HfInv hi lo d d1 g r) (hc : 4294967295 < r ∨ g * d0 ≤ r * 4294967296 + lo) : g = hfQ hi lo d := by
  have hq := hfQ_lt hp
  obtain ⟨h1, h2, h3, h4, h5, h6, h7, h8, h9⟩ := hp
  obtain ⟨i1, i2, i3, i4, i5, i6, i7⟩ := h
  have : g ≤ hfQ hi lo d := by
    refine Int.le_ediv_of_mul_le (by omega) ?_
    rw [gd h9]
    rcases hc with hc | hc
    · have b1 : g * d0 ≤ 4294967296 * 4294967295 := Int.mul_le_mul (by omega) (by omega) h7 (by omega)
      omega
    · omega
  omega
theorem hfR_eq {hi lo d d0 d1 : Int} (hp : HfPre hi lo d d0 d1) : IntKind.u64.wrap (IntKind.u64.wrap (IntKind.u64.wrap (hi * 4294967296) + lo) - IntKind.u64.wrap (hfQ hi lo d * d)) = hfR hi lo d := by
  obtain ⟨h1, h2, h3, h4, h5, h6, h7, h8, h9⟩ := hp
  have e1 := Int.mul_ediv_add_emod (hi * 4294967296 + lo) d
  have b1 := Int.emod_nonneg (hi * 4294967296 + lo) (show d ≠ 0 by omega)
  have b2 := Int.emod_lt_of_pos (hi * 4294967296 + lo) (show 0 < d by omega)
  rw [Int.mul_comm] at e1
  simp only [wrap_u64, hfQ, hfR]
  generalize (hi * 4294967296 + lo) % d = R at *
  generalize (hi * 4294967296 + lo) / d * d = Q at *
  omega
theorem or_join32 (r lo : Int) (h0 : 0 ≤ r) (h1 : r ≤ 4294967295) (h2 : 0 ≤ lo) (h3 : lo < 4294967296) : bits .or .u64 (r * 4294967296) lo = r * 4294967296 + lo :=
  bits_join .u64 64 (by decide) (fun n h0 h1 => by rw [wrap_u64]; have : n < 18446744073709551616 := by simpa using h1
                                                   omega) 32 _ _ (by omega) (by show _ % 4294967296 = 0; omega) (by show _ < 18446744073709551616; omega) h2 (by show _ < 4294967296; omega) (by show _ < 18446744073709551616; omega)
theorem wrap_gd {g d0 : Int} (h1 : 0 ≤ g) (h2 : g ≤ 4294967295) (h3 : 0 ≤ d0) (h4 : d0 < 4294967296) : IntKind.u64.wrap (g * d0) = g * d0 := by
  have := halves_mul g d0 ⟨h1, h2⟩ ⟨h3, by omega⟩
  rw [wrap_u64]; omega

set_option maxHeartbeats 1000000 in
theorem divideHalf_any (hi lo d : Int) (w : World) (hh : 0 ≤ hi ∧ hi < d) (hl : 0 ≤ lo ∧ lo < 4294967296) (hd : 9223372036854775808 ≤ d) (hdl : Lm d) :
    Calls Tryd.prog 122 #[.int .u64 hi, .int .u64 lo, .int .u64 d] w fun e w' => e = .returned (.tuple #[.int .u64 (hfQ hi lo d), .int .u64 (hfR hi lo d)]) ∧ Quiet w w' := by
  obtain ⟨d0, hd0⟩ : ∃ d0, bits .and .u64 d 4294967295 = d0 := ⟨_, rfl⟩
  obtain ⟨d1, hd1⟩ : ∃ d1, d / 4294967296 = d1 := ⟨_, rfl⟩
  have hpre : HfPre hi lo d d0 d1 := by
    unfold Lm at hdl
    rw [Wd_eq] at hdl
    rw [mask32 d hdl.1 (by omega)] at hd0
    unfold HfPre
    omega
  have hst := HfInv.start hpre
  have hd1p : 0 < d1 := by have := hpre.2.2.2.2.1; omega
  have hd1n : ¬ d1 = 0 := by omega
  have hd00 := hpre.2.2.2.2.2.2.1
  have hd01 := hpre.2.2.2.2.2.2.2.1
  have HS := Lib.hid hst; clear hst
  go_enter Tryd.func122, Tryd.ntmps122
  go_wp2
  go_quiet (fail)
  go_wp2
  go_loopw [10, 11] (fun gv rv wr => ∃ g r : Int, gv = .int .u64 g ∧ rv = .int .u64 r ∧ HfInv hi lo d d1 g r ∧ Quiet w wr) (fun gv _ _ => (intOf gv).toNat)
  case atStart => exact ⟨_, _, rfl, rfl, HS.out.1, ⟨_, rfl⟩⟩
  case round =>
    obtain ⟨g, r, rfl, rfl, hinv, hq⟩ := hrel
    have hg0 := hinv.2.1
    have hr0 := hinv.2.2.1
    clear hd0 hd1
    by_cases hr : r ≤ 4294967295
    · by_cases hg : g ≤ 4294967295
      · go_wp2
        · have hc : 4294967295 < g ∨ bits BinOp.or IntKind.u64 (r * 4294967296) lo < IntKind.u64.wrap (g * d0) := by assumption
          rw [or_join32 r lo hr0 hr hl.1 hl.2, wrap_gd hg0 hg hd00 hd01] at hc
          obtain ⟨k1, k2⟩ := HfInv.dec hpre hinv hr (.inr ⟨hg, by omega⟩)
          go_roundw
          case rel => exact ⟨_, _, rfl, rfl, k1, hq⟩
          case measure => exact k2
        · have hc : g ≤ 4294967295 ∧ IntKind.u64.wrap (g * d0) ≤ bits BinOp.or IntKind.u64 (r * 4294967296) lo := by assumption
          rw [or_join32 r lo hr0 hr hl.1 hl.2, wrap_gd hg0 hg hd00 hd01] at hc
          have hgq := HfInv.exit hpre hinv (.inr hc.2)
          go_ret2
          exact ⟨two_ret hgq (by rw [hgq]; exact hfR_eq hpre), hq⟩
      · go_wp2
        obtain ⟨k1, k2⟩ := HfInv.dec hpre hinv hr (.inl (by omega))
        go_roundw
        case rel => exact ⟨_, _, rfl, rfl, k1, hq⟩
        case measure => exact k2
    · go_wp2
      have hgq := HfInv.exit hpre hinv (.inl (by omega))
      go_ret2
      exact ⟨two_ret hgq (by rw [hgq]; exact hfR_eq hpre), hq⟩

theorem Quiet.trans {a b c : World} (h : Quiet a b) (k : Quiet b c) : Quiet a c := by
  obtain ⟨n, rfl⟩ := h
  obtain ⟨m, rfl⟩ := k
  exact ⟨n + m, by simp [World.drewN, Nat.add_assoc]⟩
/-- The guess: the quotient of two limbs by one, or the greatest limb. -/
def gqV (hi lo d : Int) : Int := if hi < d then (hi * (Wd : Int) + lo) / d else (Wd : Int) - 1
theorem hfR_lt {hi lo d : Int} (hd : 0 < d) : 0 ≤ hfR hi lo d ∧ hfR hi lo d < d := ⟨Int.emod_nonneg _ (by omega), Int.emod_lt_of_pos _ hd⟩
theorem hf_two {hi lo d : Int} (hd : 0 < d) : (hi * (Wd : Int) + lo) / d = hfQ hi (lo / 4294967296) d * 4294967296 + hfQ (hfR hi (lo / 4294967296) d) (lo % 4294967296) d := by
  rw [Wd_eq]
  unfold hfQ hfR
  have e1 := Int.mul_ediv_add_emod (hi * 4294967296 + lo / 4294967296) d
  generalize (hi * 4294967296 + lo / 4294967296) / d = q1 at *
  generalize (hi * 4294967296 + lo / 4294967296) % d = r1 at *
  have e2 : hi * ((18446744073709551616 : Nat) : Int) + lo = (r1 * 4294967296 + lo % 4294967296) + d * (q1 * 4294967296) := by
    rw [← Int.mul_assoc]
    generalize d * q1 = dq at *
    omega
  rw [e2, Int.add_mul_ediv_left _ _ (by omega)]
  omega
theorem gq_join {q1 q0 : Int} (h0 : 0 ≤ q1) (h1 : q1 < 4294967296) (h2 : 0 ≤ q0) (h3 : q0 < 4294967296) : bits .or .u64 (IntKind.u64.wrap (q1 * 4294967296)) q0 = q1 * 4294967296 + q0 := by
  have e : IntKind.u64.wrap (q1 * 4294967296) = q1 * 4294967296 := by rw [wrap_u64]; omega
  rw [e]
  exact or_join32 q1 q0 h0 (by omega) h2 h3
theorem ret_u64 {a b : Int} (h : a = b) : Ending.returned (.int .u64 a) = .returned (.int .u64 b) := by rw [h]
theorem hfPre_of {hi lo d : Int} (hh : 0 ≤ hi ∧ hi < d) (hl : 0 ≤ lo ∧ lo < 4294967296) (hd : 9223372036854775808 ≤ d) (hdl : Lm d) : HfPre hi lo d (d % 4294967296) (d / 4294967296) := by
  unfold Lm at hdl
  rw [Wd_eq] at hdl
  unfold HfPre
  omega

set_option maxHeartbeats 1000000 in
theorem guessQuotient_any (hi lo d : Int) (w : World) (hh : Lm hi) (hl : Lm lo) (hd : 9223372036854775808 ≤ d) (hdl : Lm d) :
    Calls Tryd.prog 120 #[.int .u64 hi, .int .u64 lo, .int .u64 d] w fun e w' => e = .returned (.int .u64 (gqV hi lo d)) ∧ Quiet w w' := by
  by_cases hlt : hi < d
  · have hl1 : 0 ≤ lo / 4294967296 ∧ lo / 4294967296 < 4294967296 := by unfold Lm at hl; rw [Wd_eq] at hl; omega
    have hl0 : 0 ≤ lo % 4294967296 ∧ lo % 4294967296 < 4294967296 := by omega
    have hm : bits .and .u64 lo 4294967295 = lo % 4294967296 := mask32 lo hl.1 (by have := hl.2; rw [Wd_eq] at this; omega)
    have hfin : gqV hi lo d = hfQ hi (lo / 4294967296) d * 4294967296 + hfQ (hfR hi (lo / 4294967296) d) (lo % 4294967296) d := by
      unfold gqV
      rw [if_pos hlt, hf_two (by omega)]
    have b1 := hfQ_lt (hfPre_of ⟨hh.1, hlt⟩ hl1 hd hdl)
    have hr := hfR_lt (hi := hi) (lo := lo / 4294967296) (d := d) (by omega)
    have b0 := hfQ_lt (hfPre_of hr hl0 hd hdl)
    have HF := Lib.hid hfin; clear hfin
    have hge : ¬ d ≤ hi := by omega
    generalize hl0e : lo % 4294967296 = lo0 at *
    have Hl0 := Lib.hid hl0e; clear hl0e
    generalize hl1e : lo / 4294967296 = lo1 at *
    go_enter Tryd.func120, Tryd.ntmps120
    go_wp2_with fail
    refine (divideHalf_any hi lo1 d _ ⟨hh.1, hlt⟩ hl1 hd hdl).mono ?_
    rintro e w1 ⟨rfl, hq1⟩
    generalize hq1e : hfQ hi lo1 d = q1 at *
    have Hq1 := Lib.hid hq1e; clear hq1e
    generalize hr1e : hfR hi lo1 d = r1 at *
    have Hr1 := Lib.hid hr1e; clear hr1e
    go_wp2_with fail
    refine (divideHalf_any r1 lo0 d _ hr hl0 hd hdl).mono ?_
    rintro e w2 ⟨rfl, hq2⟩
    generalize hq0e : hfQ r1 lo0 d = q0 at *
    have Hq0 := Lib.hid hq0e; clear hq0e
    go_wp2
    go_ret
    refine ⟨ret_u64 ?_, hq1.trans hq2⟩
    rw [HF.out]
    first | exact or_join32 q1 q0 b1.1 (by omega) b0.1 b0.2 | exact gq_join b1.1 b1.2 b0.1 b0.2
  · go_enter Tryd.func120, Tryd.ntmps120
    go_wp2
    go_ret
    exact ⟨ret_u64 (by unfold gqV; rw [if_neg (by omega), Wd_eq]; rfl), Quiet.refl _⟩
end Go.Proofs.YtcoidcbbdibnaaaDoor
