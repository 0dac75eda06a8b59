/-
  The law BitsBack, as a call.
-/
import Derived.Test.YthbodamihiddhaaDoorBshown
namespace Go.Proofs.YthbodamihiddhaaDoor
open Go.RowKit
set_option linter.unusedVariables false

/-- A pattern's number has that pattern. -/
theorem back_core {b : Nat} (hl : b < 18446744073709551616) (hf : fdN b ≠ 2047) (hm : mnN b ≠ 0) {Q E : Int} (hQ : od (zi (sgN b) (mnN b)) = Q) (hE : nE (zi (sgN b) (mnN b)) (exN b) = E) :
    In E ∧ Q ≠ 0 ∧ (∃ t, t = E + bl Q.natAbs - 1 ∧ t ≤ 1023 ∧ exN b = max (t - 52) (-1074)) ∧ exN b ≤ nE Q E ∧ (od Q).natAbs * 2 ^ (nE Q E - exN b).toNat = mnN b ∧
      ((if ngB Q then 9223372036854775808 else 0) + ((exN b + 1074).toNat * 4503599627370496 + mnN b)) = b := by
  have hX : zi (sgN b) (mnN b) ≠ 0 := zi_ne (by omega)
  have hx := exN_num hf
  have hab := zi_abs (sgN b) (mnN b)
  have hlt := mnN_lt b
  have hnf := od_nf (X := zi (sgN b) (mnN b)) (e := exN b)
  have hlg := lg_nf (e := exN b) hX
  have hsp := congrArg Int.natAbs (tz_spec hX).1
  have hne := nE_ne hX (exN b)
  have hbt : Bt (zi (sgN b) (mnN b)) 53 := by unfold Bt; rw [hab]; omega
  have hin := nE_in (e := exN b) hbt (by omega) (by omega) (by omega)
  have hng : ngB (od (zi (sgN b) (mnN b))) = sgN b := by
    rw [ngB_od]
    cases hs : sgN b
    · exact ngB_false _
    · exact ngB_true (by omega)
  have hodn := od_ne hX
  rw [hQ, hE] at hnf hlg
  rw [hQ] at hng hodn
  rw [hE] at hin hne
  rw [hab] at hlg hsp
  rw [Int.natAbs_mul, pow_cast, Int.natAbs_natCast, hQ] at hsp
  rw [lg_of hodn] at hlg
  refine ⟨hin, hodn, ⟨_, rfl, ?_, ?_⟩, ?_, ?_, ?_⟩
  · rw [hlg]
    by_cases h0 : fdN b = 0
    · have := mn_bl0 h0; omega
    · have := mn_bl h0; omega
  · rw [hlg]
    by_cases h0 : fdN b = 0
    · have := mn_bl0 h0; have : exN b = -1074 := by unfold exN; rw [if_pos h0]
      omega
    · have := mn_bl h0; omega
  · rw [hnf.2]; omega
  · rw [hnf.1, hnf.2, hne, show (exN b + (tz (zi (sgN b) (mnN b)) : Int) - exN b).toNat = tz (zi (sgN b) (mnN b)) by omega]
    exact hsp.symm
  · rw [hng, join_mn]
    have := parts_sum b hl
    omega
theorem mn_zero {b : Nat} (hl : b < 18446744073709551616) (h : mnN b = 0) : fdN b = 0 ∧ (b = 0 ∨ b = 9223372036854775808) := by
  have h0 : fdN b = 0 := Classical.byContradiction fun hc => by unfold mnN at h; rw [if_neg hc] at h; omega
  have h1 : frN b = 0 := by unfold mnN at h; rw [if_pos h0] at h; exact h
  have := parts_sum b hl
  rw [h0, h1] at this
  refine ⟨h0, ?_⟩
  cases hs : sgN b <;> rw [hs] at this <;> simp at this <;> omega
theorem lm_nat {x : Int} (h : Lm x) : ∃ b : Nat, x = b ∧ b < 18446744073709551616 := by
  unfold Lm at h; rw [Wd_eq] at h
  exact ⟨x.toNat, by omega, by omega⟩

set_option maxRecDepth 100000 in
set_option maxHeartbeats 8000000 in
theorem BitsBack_any {x : Int} {w : World} (hT : Tab w) (hx : Lm x) :
    Calls Tryd.prog 4 #[.int .u64 x] w fun e w' => e = .returned (.bool true) ∧ Below w.heap.size w w' := by
  obtain ⟨b, rfl, hl⟩ := lm_nat hx
  clear hx
  by_cases hf : fdN b = 2047
  · have hf1 : ((fdN b : Int) == 2047) = true := by simp; omega
    have hb := Below.refl w.heap.size w
    go_enter Tryd.func4, Tryd.ntmps4
    go_wp2_with fail
    with_reducible refine (Bshown_any hT).mono ?_
    rintro e v1 ⟨rfl, hb1⟩
    replace hT := hT.keep hb1
    replace hb := bthen hb hb1
    clear hb1
    go_wp2_with fail
    with_reducible refine (Value_none _ b rfl hl hf).mono ?_
    rintro e v2 ⟨rfl, hb1⟩
    replace hT := hT.keep hb1
    replace hb := bthen hb hb1
    clear hb1
    go_wp2_with fail
    have hb1 := below_alloc v2 (.cells #[.bool false, .slice none 0 0, .int .i64 0] 30)
    have x_d := Dx.new v2 false none 0 0 0
    have e_d : w.heap.size ≤ v2.heap.size := hb.size
    replace hT := hT.keep hb1
    replace hb := bthen hb hb1
    clear hb1
    generalize v2.alloc (.cells #[.bool false, .slice none 0 0, .int .i64 0] 30) = v3 at *
    have q_d0 := x_d.c0; have q_d1 := x_d.c1; have f_d0 := x_d.fr 0; have f_d1 := x_d.fr 1; have q_d2 := x_d.c2; have f_d2 := x_d.fr 2
    skip
    with_reducible refine (Parts_any _ b rfl hl).mono ?_
    rintro e v4 ⟨rfl, hb1⟩
    replace x_d := x_d.keep hb1
    replace hT := hT.keep hb1
    replace hb := bthen hb hb1
    clear hb1
    replace q_d0 := x_d.c0; replace q_d1 := x_d.c1; replace f_d0 := x_d.fr 0; replace f_d1 := x_d.fr 1; replace q_d2 := x_d.c2; replace f_d2 := x_d.fr 2
    go_wp2
    go_ret
    exact ⟨rfl, hb⟩
  have hf1 : ((fdN b : Int) == 2047) = false := by simp; omega
  by_cases hm : mnN b = 0
  · obtain ⟨h0, hb0⟩ := mn_zero hl hm
    have hq : od (zi (sgN b) (mnN b)) = 0 ∧ nE (zi (sgN b) (mnN b)) (exN b) = 0 := by
      rw [hm, show zi (sgN b) 0 = 0 by unfold zi; split <;> rfl]; exact ⟨od_zero, rfl⟩
    have HQ := Lib.hid hq; have HB := Lib.hid hb0; clear hq h0 hm hb0
    have hb := Below.refl w.heap.size w
    go_enter Tryd.func4, Tryd.ntmps4
    go_wp2_with fail
    with_reducible refine (Bshown_any hT).mono ?_
    rintro e v1 ⟨rfl, hb1⟩
    replace hT := hT.keep hb1
    replace hb := bthen hb hb1
    clear hb1
    go_wp2_with fail
    with_reducible refine (Value_any _ b rfl hl hT hf).mono ?_
    rintro e v2 ⟨A1, n1, c1, rfl, z_d, hb1⟩
    replace hT := hT.keep hb1
    replace hb := bthen hb hb1
    clear hb1
    rw [HQ.out.1] at z_d
    rw [HQ.out.1, HQ.out.2]
    go_wp2_with fail
    have hb1 := below_alloc v2 (.cells #[.bool (ngB 0), .slice A1 n1 c1, .int .i64 0] 30)
    have x_d := Dx.new v2 (ngB 0) A1 n1 c1 0
    have e_d : w.heap.size ≤ v2.heap.size := hb.size
    replace hT := hT.keep hb1
    replace z_d := z_d.keep hb1
    replace hb := bthen hb hb1
    clear hb1
    generalize v2.alloc (.cells #[.bool (ngB 0), .slice A1 n1 c1, .int .i64 0] 30) = v3 at *
    have q_d0 := x_d.c0; have q_d1 := x_d.c1; have f_d0 := x_d.fr 0; have f_d1 := x_d.fr 1; have q_d2 := x_d.c2; have f_d2 := x_d.fr 2
    skip
    with_reducible refine (Parts_any _ b rfl hl).mono ?_
    rintro e v4 ⟨rfl, hb1⟩
    replace x_d := x_d.keep hb1
    replace hT := hT.keep hb1
    replace z_d := z_d.keep hb1
    replace hb := bthen hb hb1
    clear hb1
    replace q_d0 := x_d.c0; replace q_d1 := x_d.c1; replace f_d0 := x_d.fr 0; replace f_d1 := x_d.fr 1; replace q_d2 := x_d.c2; replace f_d2 := x_d.fr 2
    go_wp2_with fail
    with_reducible refine (Of_zero z_d.zr (by omega) (by decide)).mono ?_
    rintro e v5 ⟨rfl, hb1⟩
    replace x_d := x_d.keep hb1
    replace hT := hT.keep hb1
    replace z_d := z_d.keep hb1
    replace hb := bthen hb hb1
    clear hb1
    replace q_d0 := x_d.c0; replace q_d1 := x_d.c1; replace f_d0 := x_d.fr 0; replace f_d1 := x_d.fr 1; replace q_d2 := x_d.c2; replace f_d2 := x_d.fr 2
    rcases HB.out with rfl | rfl
    · go_wp2
      go_ret
      exact ⟨rfl, hb⟩
    · go_wp2
      go_ret
      exact ⟨rfl, hb⟩
  · obtain ⟨Q, hQ⟩ : ∃ Q, od (zi (sgN b) (mnN b)) = Q := ⟨_, rfl⟩
    obtain ⟨E, hE⟩ : ∃ E, nE (zi (sgN b) (mnN b)) (exN b) = E := ⟨_, rfl⟩
    obtain ⟨i1, i2, ⟨t, i3, i4, i5⟩, i6, i7, i8⟩ := back_core hl hf hm hQ hE
    have HI := Lib.hid (And.intro i1 (And.intro i2 (And.intro i3 (And.intro i4 (And.intro i5 (And.intro i6 (And.intro i7 i8)))))))
    have HQ := Lib.hid (And.intro hQ hE); clear i1 i2 i3 i4 i5 i6 i7 i8 hQ hE hm
    have hb := Below.refl w.heap.size w
    go_enter Tryd.func4, Tryd.ntmps4
    go_wp2_with fail
    with_reducible refine (Bshown_any hT).mono ?_
    rintro e v1 ⟨rfl, hb1⟩
    replace hT := hT.keep hb1
    replace hb := bthen hb hb1
    clear hb1
    go_wp2_with fail
    with_reducible refine (Value_any _ b rfl hl hT hf).mono ?_
    rintro e v2 ⟨A1, n1, c1, rfl, z_d, hb1⟩
    replace hT := hT.keep hb1
    replace hb := bthen hb hb1
    clear hb1
    rw [HQ.out.1] at z_d
    rw [HQ.out.1, HQ.out.2]
    go_wp2_with fail
    have hb1 := below_alloc v2 (.cells #[.bool (ngB Q), .slice A1 n1 c1, .int .i64 E] 30)
    have x_d := Dx.new v2 (ngB Q) A1 n1 c1 E
    have e_d : w.heap.size ≤ v2.heap.size := hb.size
    replace hT := hT.keep hb1
    replace z_d := z_d.keep hb1
    replace hb := bthen hb hb1
    clear hb1
    generalize v2.alloc (.cells #[.bool (ngB Q), .slice A1 n1 c1, .int .i64 E] 30) = v3 at *
    have q_d0 := x_d.c0; have q_d1 := x_d.c1; have f_d0 := x_d.fr 0; have f_d1 := x_d.fr 1; have q_d2 := x_d.c2; have f_d2 := x_d.fr 2
    skip
    with_reducible refine (Parts_any _ b rfl hl).mono ?_
    rintro e v4 ⟨rfl, hb1⟩
    replace x_d := x_d.keep hb1
    replace hT := hT.keep hb1
    replace z_d := z_d.keep hb1
    replace hb := bthen hb hb1
    clear hb1
    replace q_d0 := x_d.c0; replace q_d1 := x_d.c1; replace f_d0 := x_d.fr 0; replace f_d1 := x_d.fr 1; replace q_d2 := x_d.c2; replace f_d2 := x_d.fr 2
    go_wp2_with fail
    with_reducible refine (Of_at z_d.zr hT (by omega) HI.out.1 HI.out.2.1 t (exN b) HI.out.2.2.1 HI.out.2.2.2.1 HI.out.2.2.2.2.1 HI.out.2.2.2.2.2.1 (mnN b) HI.out.2.2.2.2.2.2.1).mono ?_
    rintro e v5 ⟨rfl, hb1⟩
    replace x_d := x_d.keep hb1
    replace hT := hT.keep hb1
    replace z_d := z_d.keep hb1
    replace hb := bthen hb hb1
    clear hb1
    replace q_d0 := x_d.c0; replace q_d1 := x_d.c1; replace f_d0 := x_d.fr 0; replace f_d1 := x_d.fr 1; replace q_d2 := x_d.c2; replace f_d2 := x_d.fr 2
    rw [HI.out.2.2.2.2.2.2.2]
    go_wp2
    go_ret
    exact ⟨ret_b (by rw [bne, hf1]; rfl), hb⟩

end Go.Proofs.YthbodamihiddhaaDoor
