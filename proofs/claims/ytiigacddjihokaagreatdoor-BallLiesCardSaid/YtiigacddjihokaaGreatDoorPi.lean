/-
  the document's answer for dyad: Equal.
-/
import Derived.Test.YtiigacddjihokaaGreatDoorPf
import Derived.Test.YtiigacddjihokaaGreatDoorPe
import Derived.Test.YtiigacddjihokaaGreatDoorPg
namespace Go.Proofs.YtiigacddjihokaaGreatDoor
section
set_option maxRecDepth 100000
open Go.RowKit
set_option linter.unusedVariables false

theorem dg_head {N : Nat} (h : 0 < (dg Wd N).length) : (dg Wd N)[0] = ((N % Wd : Nat) : Int) := by
  have h1 := vl_dg Wd2 N
  match hl : dg Wd N, h with
  | x :: l, _ =>
    have h2 := Lim_dg Wd2 N
    rw [hl] at h1 h2
    have h3 := (Lim_cons.1 h2).1
    rw [vl_cons] at h1
    show x = _
    have : N % Wd = x.toNat := by rw [← h1, Nat.add_mul_mod_self_left]; exact Nat.mod_eq_of_lt (by omega)
    rw [this]; omega
theorem low_mask (N : Nat) (s : Nat) (hs : s ≤ 32) : bits .and .u64 ((N % Wd : Nat) : Int) ((2 ^ s - 1 : Nat) : Int) = ((N % 2 ^ s : Nat) : Int) := by
  have h1 : N % Wd < 18446744073709551616 := by have := Nat.mod_lt N (show 0 < Wd from Wd0); rw [Wd_eq] at this ⊢; exact this
  have h2 : 2 ^ s - 1 < 18446744073709551616 := by
    have : 2 ^ s ≤ 2 ^ 32 := Nat.pow_le_pow_right (by omega) hs
    omega
  rw [bits_and_u64_nat _ _ h1 h2, Nat.and_two_pow_sub_one_eq_mod]
  congr 1
  rw [show Wd = 2 ^ s * 2 ^ (64 - s) by rw [← Nat.pow_add, show s + (64 - s) = 64 by omega]; rfl, Nat.mod_mul_right_mod]
/-- A step of plain: so many noughts are cut off. -/
theorem cut_off {M : Int} {s : Nat} (hM : M ≠ 0) (h : M.natAbs % 2 ^ s = 0) : M / 2 ^ s ≠ 0 ∧ od (M / 2 ^ s) = od M ∧ (∀ e, nE (M / 2 ^ s) (e + s) = nE M e) ∧ tz (M / 2 ^ s) + s = tz M ∧ (M / 2 ^ s).natAbs ≤ M.natAbs := by
  have hd : M = M / 2 ^ s * 2 ^ s := by
    have h1 : ((2 ^ s : Nat) : Int) ∣ M := Int.ofNat_dvd_left.2 (Nat.dvd_of_mod_eq_zero h)
    rw [← pow_cast] at h1
    exact (Int.ediv_mul_cancel h1).symm
  generalize M / 2 ^ s = Q at *
  subst hd
  have hQ : Q ≠ 0 := fun h0 => hM (by rw [h0, Int.zero_mul])
  refine ⟨hQ, (od_shl Q s).symm, fun e => (nE_shl Q e s).symm, (tz_shl hQ s).symm, ?_⟩
  rw [Int.natAbs_mul, pow_cast, Int.natAbs_natCast]
  exact Nat.le_mul_of_pos_right _ (Nat.two_pow_pos s)
theorem odd_end {M : Int} (h : M.natAbs % 2 ^ 1 ≠ 0) : od M = M ∧ ∀ e, nE M e = e := by
  obtain ⟨h1, h2⟩ := nf_unique (X := M) (t := 0) (q := M) (by omega) (by omega)
  refine ⟨h2, fun e => ?_⟩
  rw [nE_ne (by omega), h1]; omega
/-- What the loops of plain keep. -/
def PlRel (w : World) (X e : Int) (j : Nat) (ev : Value) (wr : World) : Prop :=
  ∃ M E A n c, ev = .int .i64 E ∧ M ≠ 0 ∧ od M = od X ∧ nE M E = nE X e ∧ e ≤ E ∧ E + tz M = e + tz X ∧ Zn wr A n c M j ∧ Bx wr w.heap.size (ngB M) A n c ∧ Dx wr (w.heap.size + 1) false none 0 0 0 ∧ Below w.heap.size w wr

set_option maxRecDepth 100000 in
set_option maxHeartbeats 8000000 in
theorem plain_any {b : Bool} {A : Option Addr} {n c : Nat} {X : Int} {j : Nat} {w : World} (h : Zr w b A n c X j) (e : Int) (he : -100000 ≤ e ∧ e ≤ 100000) (hj : j ≤ 1000) :
    Calls Tryz.prog 118 #[.agg #[.bool b, .slice A n c], .int .i64 e] w (OutD w (od X) (nE X e) j) := by
  have hsi := h.si
  by_cases hX : X = 0
  · have HX := Lib.hid hX
    go_enter Tryz.func118, Tryz.ntmps118
    go_wp2_with fail
    have x_m : Bx (w.alloc (.cells #[.bool b, .slice A n c] 24)) (w.heap.size) b A n c := by have := Bx.new w b A n c; simpa using this
    replace x_m := x_m.alloc (.cells #[.bool false, .slice none 0 0, .int .i64 0] 28)
    have x_r : Dx ((w.alloc (.cells #[.bool b, .slice A n c] 24)).alloc (.cells #[.bool false, .slice none 0 0, .int .i64 0] 28)) (w.heap.size + 1) false none 0 0 0 := by have := Dx.new (w.alloc (.cells #[.bool b, .slice A n c] 24)) false none 0 0 0; simpa using this
    have hb : Below w.heap.size w ((w.alloc (.cells #[.bool b, .slice A n c] 24)).alloc (.cells #[.bool false, .slice none 0 0, .int .i64 0] 28)) := (Below.alloc (Below.alloc (Below.refl w.heap.size w) (by simp) (.cells #[.bool b, .slice A n c] 24)) (by simp) (.cells #[.bool false, .slice none 0 0, .int .i64 0] 28))
    generalize (w.alloc (.cells #[.bool b, .slice A n c] 24)).alloc (.cells #[.bool false, .slice none 0 0, .int .i64 0] 28) = v1 at *
    replace h := h.keep hb
    have q_m0 := x_m.c0; have q_m1 := x_m.c1; have f_m0 := x_m.fr 0; have f_m1 := x_m.fr 1
    have q_r0 := x_r.c0; have q_r1 := x_r.c1; have f_r0 := x_r.fr 0; have f_r1 := x_r.fr 1; have q_r2 := x_r.c2; have f_r2 := x_r.fr 2
    go_wp2_with fail
    with_reducible refine (RNormZ_any h j (Nat.le_refl _) (by omega)).mono ?_
    rintro e v2 ⟨A1, n1, c1, rfl, z1, hb1⟩
    replace x_m := x_m.keep hb1
    replace x_r := x_r.keep hb1
    replace h := h.keep hb1
    replace hb := bthen hb hb1
    clear hb1
    replace q_m0 := x_m.c0; replace q_m1 := x_m.c1; replace f_m0 := x_m.fr 0; replace f_m1 := x_m.fr 1
    replace q_r0 := x_r.c0; replace q_r1 := x_r.c1; replace f_r0 := x_r.fr 0; replace f_r1 := x_r.fr 1; replace q_r2 := x_r.c2; replace f_r2 := x_r.fr 2
    obtain rfl := (zn_len z1).1 HX.out
    have hng : ngB X = false := by rw [HX.out]; rfl
    rw [hng]
    clear hng hX
    have x3 := x_m.put false A1 0 c1; have r3 := x_r.aside (b' := false) (A' := A1) (n' := 0) (c' := c1) (g := w.heap.size) (by omega)
    have y0 := x3.c0; have y1 := x3.c1; have y2 := r3.fr 0; have y3 := r3.fr 1; have y4 := r3.fr 2; have y5 := r3.c0; have y6 := r3.c1; have y7 := r3.c2
    go_wp2
    have zz := r3.put false none 0 0 0
    refine bodyPost_ret (v := .agg #[.bool false, .slice none 0 0, .int .i64 0]) (by simp [results, Tryz.results118, go_sem, zz.c0, zz.c1, zz.c2]) rfl ?_
    exact OutD.nil0 j HX.out (put_belowD (put_below hb (by omega) _ _) (by omega) _ _ _)
  · have htz : tz X < 64 * j := (show tz X < 64 * j from Nat.lt_of_not_le fun hc => by
      have h1 := congrArg Int.natAbs (tz_spec hX).1
      rw [Int.natAbs_mul, pow_cast, Int.natAbs_natCast] at h1
      have h2 : 0 < (od X).natAbs := by have := od_ne hX; omega
      have h3 : 2 ^ tz X ≤ X.natAbs := by rw [h1]; exact Nat.le_mul_of_pos_left _ h2
      have h4 : X.natAbs < 2 ^ (64 * j) := by unfold Si Sm at hsi; rw [Nat.pow_mul]; exact hsi
      have h5 : 2 ^ (64 * j) ≤ 2 ^ tz X := Nat.pow_le_pow_right (by omega) hc
      omega)
    have HX := Lib.hid hX; have HSI := Lib.hid hsi; clear hX hsi
    go_enter Tryz.func118, Tryz.ntmps118
    go_wp2_with fail
    have x_m : Bx (w.alloc (.cells #[.bool b, .slice A n c] 24)) (w.heap.size) b A n c := by have := Bx.new w b A n c; simpa using this
    replace x_m := x_m.alloc (.cells #[.bool false, .slice none 0 0, .int .i64 0] 28)
    have x_r : Dx ((w.alloc (.cells #[.bool b, .slice A n c] 24)).alloc (.cells #[.bool false, .slice none 0 0, .int .i64 0] 28)) (w.heap.size + 1) false none 0 0 0 := by have := Dx.new (w.alloc (.cells #[.bool b, .slice A n c] 24)) false none 0 0 0; simpa using this
    have hb : Below w.heap.size w ((w.alloc (.cells #[.bool b, .slice A n c] 24)).alloc (.cells #[.bool false, .slice none 0 0, .int .i64 0] 28)) := (Below.alloc (Below.alloc (Below.refl w.heap.size w) (by simp) (.cells #[.bool b, .slice A n c] 24)) (by simp) (.cells #[.bool false, .slice none 0 0, .int .i64 0] 28))
    generalize (w.alloc (.cells #[.bool b, .slice A n c] 24)).alloc (.cells #[.bool false, .slice none 0 0, .int .i64 0] 28) = v1 at *
    replace h := h.keep hb
    have q_m0 := x_m.c0; have q_m1 := x_m.c1; have f_m0 := x_m.fr 0; have f_m1 := x_m.fr 1
    have q_r0 := x_r.c0; have q_r1 := x_r.c1; have f_r0 := x_r.fr 0; have f_r1 := x_r.fr 1; have q_r2 := x_r.c2; have f_r2 := x_r.fr 2
    go_wp2_with fail
    with_reducible refine (RNormZ_any h j (Nat.le_refl _) (by omega)).mono ?_
    rintro e v2 ⟨A1, n1, c1, rfl, z1, hb1⟩
    replace x_m := x_m.keep hb1
    replace x_r := x_r.keep hb1
    replace h := h.keep hb1
    replace hb := bthen hb hb1
    clear hb1
    replace q_m0 := x_m.c0; replace q_m1 := x_m.c1; replace f_m0 := x_m.fr 0; replace f_m1 := x_m.fr 1
    replace q_r0 := x_r.c0; replace q_r1 := x_r.c1; replace f_r0 := x_r.fr 0; replace f_r1 := x_r.fr 1; replace q_r2 := x_r.c2; replace f_r2 := x_r.fr 2
    have hn1 := (zn_len z1).2 HX.out
    have hnb : ((n1 : Int) == 0) = false := by simp; omega
    clear h
    go_wp2_with fail
    replace x_r := x_r.aside (b' := (ngB X)) (A' := A1) (n' := n1) (c' := c1) (g := w.heap.size) (by omega)
    replace z1 := z1.put (b' := (ngB X)) (A' := A1) (n' := n1) (c' := c1) x_m
    replace hb := put_below (g := w.heap.size) hb (by omega) (.bool (ngB X)) (.slice A1 n1 c1)
    replace x_m := x_m.put (ngB X) A1 n1 c1
    clear q_m0 q_m1 f_m0 f_m1 q_r0 q_r1 f_r0 f_r1 q_r2 f_r2
    generalize (v2.setCell ⟨w.heap.size, 0, none⟩ (.bool (ngB X))).setCell ⟨w.heap.size, 1, none⟩ (.slice A1 n1 c1) = v3 at *
    have q_m0 := x_m.c0; have q_m1 := x_m.c1; have f_m0 := x_m.fr 0; have f_m1 := x_m.fr 1
    have q_r0 := x_r.c0; have q_r1 := x_r.c1; have f_r0 := x_r.fr 0; have f_r1 := x_r.fr 1; have q_r2 := x_r.c2; have f_r2 := x_r.fr 2
    go_loopw [1] (fun ev wr => PlRel w X e j ev wr) (fun ev _ => (e + tz X - intOf ev).toNat)
    case atStart => exact ⟨X, e, A1, n1, c1, rfl, HX.out, rfl, rfl, Int.le_refl _, rfl, z1, x_m, x_r, hb⟩
    case round =>
      clear z1 x_m x_r hb q_m0 q_m1 f_m0 f_m1 q_r0 q_r1 f_r0 f_r1 q_r2 f_r2 hn1 hnb
      obtain ⟨M, E, A5, n5, c5, rfl, hM, ho, hE, hle, htm, z5, x_m, x_r, hb⟩ := hrel
      have hn5 := (zn_len z5).2 hM
      have hcp := z5.1.cap
      obtain ⟨b5, o5, rfl, hb5, hc5⟩ := z5.1.at_ hn5
      have hl5 := z5.1.len
      have hc0 := hc5 0 (by omega)
      rw [dg_head (by omega), Nat.add_zero] at hc0
      have hmk := low_mask M.natAbs 16 (by omega)
      rw [show ((2 ^ 16 - 1 : Nat) : Int) = 65535 from rfl] at hmk
      clear hc5 hl5
      have HSM : Hid (Si M j) := Lib.hid (show Sm M.natAbs j from by have := z5.1.lim; have h7 := vl_lt this; rw [vl_dg Wd2, z5.1.len] at h7; exact Nat.lt_of_lt_of_le h7 (Nat.pow_le_pow_right Wd0 z5.2))
      generalize hlm : ((M.natAbs % Wd : Nat) : Int) = lm at *
      clear hlm
      have HMK := Lib.hid hmk
      by_cases hz : M.natAbs % 2 ^ 16 = 0
      · obtain ⟨k1, k2, k3, k4, k5⟩ := cut_off hM hz
        have hm0 : (bits .and .u64 lm 65535 == 0) = true := by rw [HMK.out, hz]; rfl
        have hsc : sc 16 = 16 := by decide
        have HSC := Lib.hid hsc; clear hsc hmk hz
        have HK : Hid (M / 2 ^ 16 ≠ 0 ∧ od (M / 2 ^ 16) = od X ∧ nE (M / 2 ^ 16) (E + 16) = nE X e ∧ E + 16 + tz (M / 2 ^ 16) = e + tz X ∧ Si (M / 2 ^ 16) j) := Lib.hid ⟨k1, k2.trans ho, (k3 E).trans hE, by omega, Nat.lt_of_le_of_lt k5 HSM.out⟩
        clear k1 k2 k3 k4 k5 ho hE
        have wE : IntKind.i64.wrap (E + 16) = E + 16 := IntWalk.i64_in _ ⟨by omega, by omega⟩
        generalize hQ : M / 2 ^ 16 = Q at *
        have HQ := Lib.hid hQ; clear hQ
        have q_m0 := x_m.c0; have q_m1 := x_m.c1; have f_m0 := x_m.fr 0; have f_m1 := x_m.fr 1
        have q_r0 := x_r.c0; have q_r1 := x_r.c1; have f_r0 := x_r.fr 0; have f_r1 := x_r.fr 1; have q_r2 := x_r.c2; have f_r2 := x_r.fr 2
        go_wp2_with fail
        with_reducible refine (RShrZ_any z5.zr 16 2000 (by omega) (by omega)).mono ?_
        rintro e v4 ⟨A6, n6, c6, rfl, z6, hb1⟩
        replace x_m := x_m.keep hb1
        replace x_r := x_r.keep hb1
        replace z5 := z5.keep hb1
        replace hb := bthen hb hb1
        clear hb1
        replace q_m0 := x_m.c0; replace q_m1 := x_m.c1; replace f_m0 := x_m.fr 0; replace f_m1 := x_m.fr 1
        replace q_r0 := x_r.c0; replace q_r1 := x_r.c1; replace f_r0 := x_r.fr 0; replace f_r1 := x_r.fr 1; replace q_r2 := x_r.c2; replace f_r2 := x_r.fr 2
        rw [HSC.out, HQ.out] at z6 ⊢
        replace z6 := z6.slim HK.out.2.2.2.2
        go_wp2
        replace x_r := x_r.aside (b' := (ngB Q)) (A' := A6) (n' := n6) (c' := c6) (g := w.heap.size) (by omega)
        replace z5 := z5.put (b' := (ngB Q)) (A' := A6) (n' := n6) (c' := c6) x_m
        replace z6 := z6.put (b' := (ngB Q)) (A' := A6) (n' := n6) (c' := c6) x_m
        replace hb := put_below (g := w.heap.size) hb (by omega) (.bool (ngB Q)) (.slice A6 n6 c6)
        replace x_m := x_m.put (ngB Q) A6 n6 c6
        clear q_m0 q_m1 f_m0 f_m1 q_r0 q_r1 f_r0 f_r1 q_r2 f_r2
        generalize (v4.setCell ⟨w.heap.size, 0, none⟩ (.bool (ngB Q))).setCell ⟨w.heap.size, 1, none⟩ (.slice A6 n6 c6) = v5 at *
        have q_m0 := x_m.c0; have q_m1 := x_m.c1; have f_m0 := x_m.fr 0; have f_m1 := x_m.fr 1
        have q_r0 := x_r.c0; have q_r1 := x_r.c1; have f_r0 := x_r.fr 0; have f_r1 := x_r.fr 1; have q_r2 := x_r.c2; have f_r2 := x_r.fr 2
        go_roundw
        case rel => exact ⟨Q, E + 16, A6, n6, c6, rfl, HK.out.1, HK.out.2.1, HK.out.2.2.1, by omega, HK.out.2.2.2.1, z6, x_m, x_r, hb⟩
        case measure => have := HK.out.2.2.2.1; simp [intOf]; omega
      · have hm0 : (bits .and .u64 lm 65535 == 0) = false := by rw [HMK.out, beq_eq_false_iff_ne]; omega
        clear hz hmk HMK
        have q_m0 := x_m.c0; have q_m1 := x_m.c1; have f_m0 := x_m.fr 0; have f_m1 := x_m.fr 1
        have q_r0 := x_r.c0; have q_r1 := x_r.c1; have f_r0 := x_r.fr 0; have f_r1 := x_r.fr 1; have q_r2 := x_r.c2; have f_r2 := x_r.fr 2
        go_wp2_with fail
        go_loopw [1] (fun ev wr => PlRel w X e j ev wr) (fun ev _ => (e + tz X - intOf ev).toNat)
        case atStart => exact ⟨M, E, _, n5, c5, rfl, hM, ho, hE, hle, htm, z5, x_m, x_r, hb⟩
        case round =>
          clear z5 x_m x_r hb q_m0 q_m1 f_m0 f_m1 q_r0 q_r1 f_r0 f_r1 q_r2 f_r2 hn5 hcp hc0 hM ho hE hle htm hm0 HSM hb5
          obtain ⟨M, E, A5, n5, c5, rfl, hM, ho, hE, hle, htm, z5, x_m, x_r, hb⟩ := hrel
          have hn5 := (zn_len z5).2 hM
          have hcp := z5.1.cap
          obtain ⟨b5, o5, rfl, hb5, hc5⟩ := z5.1.at_ hn5
          have hl5 := z5.1.len
          have hc0 := hc5 0 (by omega)
          rw [dg_head (by omega), Nat.add_zero] at hc0
          have hmk := low_mask M.natAbs 1 (by omega)
          rw [show ((2 ^ 1 - 1 : Nat) : Int) = 1 from rfl] at hmk
          clear hc5 hl5
          have HSM : Hid (Si M j) := Lib.hid (show Sm M.natAbs j from by have := z5.1.lim; have h7 := vl_lt this; rw [vl_dg Wd2, z5.1.len] at h7; exact Nat.lt_of_lt_of_le h7 (Nat.pow_le_pow_right Wd0 z5.2))
          generalize hlm : ((M.natAbs % Wd : Nat) : Int) = lm at *
          clear hlm
          have HMK := Lib.hid hmk
          by_cases hz : M.natAbs % 2 ^ 1 = 0
          · obtain ⟨k1, k2, k3, k4, k5⟩ := cut_off hM hz
            have hm0 : (bits .and .u64 lm 1 == 0) = true := by rw [HMK.out, hz]; rfl
            have hsc : sc 1 = 1 := by decide
            have HSC := Lib.hid hsc; clear hsc hmk hz
            have HK : Hid (M / 2 ^ 1 ≠ 0 ∧ od (M / 2 ^ 1) = od X ∧ nE (M / 2 ^ 1) (E + 1) = nE X e ∧ E + 1 + tz (M / 2 ^ 1) = e + tz X ∧ Si (M / 2 ^ 1) j) := Lib.hid ⟨k1, k2.trans ho, (k3 E).trans hE, by omega, Nat.lt_of_le_of_lt k5 HSM.out⟩
            clear k1 k2 k3 k4 k5 ho hE
            have wE : IntKind.i64.wrap (E + 1) = E + 1 := IntWalk.i64_in _ ⟨by omega, by omega⟩
            generalize hQ : M / 2 ^ 1 = Q at *
            have HQ := Lib.hid hQ; clear hQ
            have q_m0 := x_m.c0; have q_m1 := x_m.c1; have f_m0 := x_m.fr 0; have f_m1 := x_m.fr 1
            have q_r0 := x_r.c0; have q_r1 := x_r.c1; have f_r0 := x_r.fr 0; have f_r1 := x_r.fr 1; have q_r2 := x_r.c2; have f_r2 := x_r.fr 2
            go_wp2_with fail
            with_reducible refine (RShrZ_any z5.zr 1 2000 (by omega) (by omega)).mono ?_
            rintro e v4 ⟨A6, n6, c6, rfl, z6, hb1⟩
            replace x_m := x_m.keep hb1
            replace x_r := x_r.keep hb1
            replace z5 := z5.keep hb1
            replace hb := bthen hb hb1
            clear hb1
            replace q_m0 := x_m.c0; replace q_m1 := x_m.c1; replace f_m0 := x_m.fr 0; replace f_m1 := x_m.fr 1
            replace q_r0 := x_r.c0; replace q_r1 := x_r.c1; replace f_r0 := x_r.fr 0; replace f_r1 := x_r.fr 1; replace q_r2 := x_r.c2; replace f_r2 := x_r.fr 2
            rw [HSC.out, HQ.out] at z6 ⊢
            replace z6 := z6.slim HK.out.2.2.2.2
            go_wp2
            replace x_r := x_r.aside (b' := (ngB Q)) (A' := A6) (n' := n6) (c' := c6) (g := w.heap.size) (by omega)
            replace z5 := z5.put (b' := (ngB Q)) (A' := A6) (n' := n6) (c' := c6) x_m
            replace z6 := z6.put (b' := (ngB Q)) (A' := A6) (n' := n6) (c' := c6) x_m
            replace hb := put_below (g := w.heap.size) hb (by omega) (.bool (ngB Q)) (.slice A6 n6 c6)
            replace x_m := x_m.put (ngB Q) A6 n6 c6
            clear q_m0 q_m1 f_m0 f_m1 q_r0 q_r1 f_r0 f_r1 q_r2 f_r2
            generalize (v4.setCell ⟨w.heap.size, 0, none⟩ (.bool (ngB Q))).setCell ⟨w.heap.size, 1, none⟩ (.slice A6 n6 c6) = v5 at *
            have q_m0 := x_m.c0; have q_m1 := x_m.c1; have f_m0 := x_m.fr 0; have f_m1 := x_m.fr 1
            have q_r0 := x_r.c0; have q_r1 := x_r.c1; have f_r0 := x_r.fr 0; have f_r1 := x_r.fr 1; have q_r2 := x_r.c2; have f_r2 := x_r.fr 2
            go_roundw
            case rel => exact ⟨Q, E + 1, A6, n6, c6, rfl, HK.out.1, HK.out.2.1, HK.out.2.2.1, by omega, HK.out.2.2.2.1, z6, x_m, x_r, hb⟩
            case measure => have := HK.out.2.2.2.1; simp [intOf]; omega
          · have hm0 : (bits .and .u64 lm 1 == 0) = false := by rw [HMK.out, beq_eq_false_iff_ne]; omega
            obtain ⟨k1, k2⟩ := odd_end hz
            have HF : Hid (od X = M ∧ nE X e = E) := Lib.hid ⟨ho.symm.trans k1, hE.symm.trans (k2 E)⟩
            clear hz hmk HMK k1 k2 ho hE
            have q_m0 := x_m.c0; have q_m1 := x_m.c1; have f_m0 := x_m.fr 0; have f_m1 := x_m.fr 1
            have q_r0 := x_r.c0; have q_r1 := x_r.c1; have f_r0 := x_r.fr 0; have f_r1 := x_r.fr 1; have q_r2 := x_r.c2; have f_r2 := x_r.fr 2
            go_wp2
            replace x_m := x_m.asideD (b' := (ngB M)) (A' := (some ⟨b5, o5, none⟩)) (n' := n5) (c' := c5) (e' := E) (g := w.heap.size + 1) (by omega)
            replace z5 := z5.putD (b' := (ngB M)) (A' := (some ⟨b5, o5, none⟩)) (n' := n5) (c' := c5) (e' := E) x_r
            replace hb := put_belowD (g := w.heap.size + 1) hb (by omega) (.bool (ngB M)) (.slice (some ⟨b5, o5, none⟩) n5 c5) (.int .i64 E)
            replace x_r := x_r.put (ngB M) (some ⟨b5, o5, none⟩) n5 c5 E
            clear q_m0 q_m1 f_m0 f_m1 q_r0 q_r1 f_r0 f_r1 q_r2 f_r2
            generalize ((wr.setCell ⟨w.heap.size + 1, 0, none⟩ (.bool (ngB M))).setCell ⟨w.heap.size + 1, 1, none⟩ (.slice (some ⟨b5, o5, none⟩) n5 c5)).setCell ⟨w.heap.size + 1, 2, none⟩ (.int .i64 E) = v4 at *
            have q_m0 := x_m.c0; have q_m1 := x_m.c1; have f_m0 := x_m.fr 0; have f_m1 := x_m.fr 1
            have q_r0 := x_r.c0; have q_r1 := x_r.c1; have f_r0 := x_r.fr 0; have f_r1 := x_r.fr 1; have q_r2 := x_r.c2; have f_r2 := x_r.fr 2
            refine bodyPost_ret (v := .agg #[.bool (ngB M), .slice (some ⟨b5, o5, none⟩) n5 c5, .int .i64 E]) (by simp [results, Tryz.results118, go_sem, q_r0, q_r1, q_r2]) rfl ?_
            exact ⟨_, _, _, by rw [HF.out.1, HF.out.2], by rw [HF.out.1]; exact z5, hb⟩
end
end Go.Proofs.YtiigacddjihokaaGreatDoor
namespace Go.Proofs.YtiigacddjihokaaGreatDoor
section
set_option maxRecDepth 100000
open Go.RowKit
set_option linter.unusedVariables false

theorem near_any (n : Int) (w : World) : Calls Tryz.prog 91 #[.int .i64 n] w fun e w' => e = .returned (.int .i64 (li n)) ∧ Below w.heap.size w w' := by
  unfold li
  go_enter Tryz.func91, Tryz.ntmps91
  go_wp2
  all_goals go_ret
  all_goals exact ⟨ret_i64 (by omega), Below.refl _ _⟩
theorem raise2 {X n : Int} (h0 : 8000 ≤ n) (h1 : n ≤ 16000) : X * 2 ^ sc 8000 * 2 ^ sc (n - 8000) = X * 2 ^ n.toNat := by
  rw [Int.mul_assoc, ← Int.pow_add]
  congr 2
  unfold sc; omega
theorem raise1 {X n : Int} (h0 : 0 ≤ n) (h1 : n ≤ 8000) : X * 2 ^ sc n = X * 2 ^ n.toNat := by
  congr 2
  unfold sc; omega
theorem nE_rng {X e : Int} {j : Nat} (h : Si X j) (he : -4000 ≤ e ∧ e ≤ 4000) : -4000 ≤ nE X e ∧ nE X e ≤ 4000 + 64 * j := by
  have hb := nE_le (e := e) (Bt.of_si h) (lo := -4000) (hi := 4000 + 64 * j) (by omega) (by omega) (by omega) (by omega)
  exact hb
theorem Si.counted {X e : Int} {j : Nat} (h : Si X j) : Si (cM X e) j := by
  unfold cM; split
  · exact h
  · unfold Si Sm; exact Nat.pow_pos Wd0
theorem tz_neg (X : Int) : tz (-X) = tz X := by unfold tz; rw [Int.natAbs_neg]
theorem nE_neg (X e : Int) : nE (-X) e = nE X e := by unfold nE; rw [tz_neg]; by_cases h : X = 0 <;> simp [h]
/-- Rounded down, a normal form is the number. -/
theorem flI_nf {X e q : Int} : flI (od X) (nE X e + q) = flI X (e + q) := by
  by_cases h : X = 0
  · subst h
    rw [od_zero]
    unfold flI
    split <;> split <;> simp
  · have hX := (tz_spec h).1
    rw [nE_ne h]
    generalize od X = O at *
    generalize tz X = t at *
    subst hX
    unfold flI
    by_cases h1 : e + q < 0
    · rw [if_pos h1]
      by_cases h2 : e + t + q < 0
      · rw [if_pos h2]
        rw [show (-(e + q)).toNat = (-(e + t + q)).toNat + t by omega, Int.pow_add]
        exact (Int.mul_ediv_mul_of_pos_left _ _ (two_pow_pos t)).symm
      · rw [if_neg h2, show t = (e + t + q).toNat + (-(e + q)).toNat by omega, Int.pow_add, ← Int.mul_assoc]
        rw [Int.mul_ediv_cancel _ (by have := two_pow_pos (-(e + q)).toNat; omega)]
        congr 2; omega
    · rw [if_neg h1, if_neg (by omega), Int.mul_assoc, ← Int.pow_add]
      congr 2; omega

set_option maxRecDepth 100000 in
set_option maxHeartbeats 1000000 in
theorem counts_any {b : Bool} {A : Option Addr} {n c : Nat} {X e : Int} {j : Nat} {w : World} (h : Zr w b A n c X j) (hj : j ≤ 1000) :
    Calls Tryz.prog 89 #[.agg #[.bool b, .slice A n c, .int .i64 e]] w (OutD w (od (cM X e)) (nE (cM X e) (cE e)) j) := by
  by_cases hr : -4000 ≤ e ∧ e ≤ 4000
  · obtain ⟨hM, hE⟩ := c_yes (X := X) hr
    rw [hM, hE]
    clear hM hE
    have h1 : ¬ e < -4000 := by omega
    have h2 : ¬ 4000 < e := by omega
    go_enter Tryz.func89, Tryz.ntmps89
    go_wp2_with fail
    have x_a : Dx (w.alloc (.cells #[.bool b, .slice A n c, .int .i64 e] 28)) (w.heap.size) b A n c e := by have := Dx.new w b A n c e; simpa using this
    replace x_a := x_a.alloc (.cells #[.bool false, .slice none 0 0, .int .i64 0] 28)
    have x_r : Dx ((w.alloc (.cells #[.bool b, .slice A n c, .int .i64 e] 28)).alloc (.cells #[.bool false, .slice none 0 0, .int .i64 0] 28)) (w.heap.size + 1) false none 0 0 0 := by have := Dx.new (w.alloc (.cells #[.bool b, .slice A n c, .int .i64 e] 28)) false none 0 0 0; simpa using this
    have hb : Below w.heap.size w ((w.alloc (.cells #[.bool b, .slice A n c, .int .i64 e] 28)).alloc (.cells #[.bool false, .slice none 0 0, .int .i64 0] 28)) := (Below.alloc (Below.alloc (Below.refl w.heap.size w) (by simp) (.cells #[.bool b, .slice A n c, .int .i64 e] 28)) (by simp) (.cells #[.bool false, .slice none 0 0, .int .i64 0] 28))
    generalize (w.alloc (.cells #[.bool b, .slice A n c, .int .i64 e] 28)).alloc (.cells #[.bool false, .slice none 0 0, .int .i64 0] 28) = v1 at *
    replace h := h.keep hb
    have q_a0 := x_a.c0; have q_a1 := x_a.c1; have f_a0 := x_a.fr 0; have f_a1 := x_a.fr 1; have q_a2 := x_a.c2; have f_a2 := x_a.fr 2
    have q_r0 := x_r.c0; have q_r1 := x_r.c1; have f_r0 := x_r.fr 0; have f_r1 := x_r.fr 1; have q_r2 := x_r.c2; have f_r2 := x_r.fr 2
    go_wp2_with fail
    with_reducible refine (plain_any h e (by omega) hj).mono ?_
    rintro e v2 ⟨A1, n1, c1, rfl, z1, hb1⟩
    replace x_a := x_a.keep hb1
    replace x_r := x_r.keep hb1
    replace h := h.keep hb1
    replace hb := bthen hb hb1
    clear hb1
    replace q_a0 := x_a.c0; replace q_a1 := x_a.c1; replace f_a0 := x_a.fr 0; replace f_a1 := x_a.fr 1; replace q_a2 := x_a.c2; replace f_a2 := x_a.fr 2
    replace q_r0 := x_r.c0; replace q_r1 := x_r.c1; replace f_r0 := x_r.fr 0; replace f_r1 := x_r.fr 1; replace q_r2 := x_r.c2; replace f_r2 := x_r.fr 2
    go_wp2
    replace x_a := x_a.asideD (b' := (ngB (od X))) (A' := A1) (n' := n1) (c' := c1) (e' := (nE X e)) (g := w.heap.size + 1) (by omega)
    replace h := h.putD (b' := (ngB (od X))) (A' := A1) (n' := n1) (c' := c1) (e' := (nE X e)) x_r
    replace z1 := z1.putD (b' := (ngB (od X))) (A' := A1) (n' := n1) (c' := c1) (e' := (nE X e)) x_r
    replace hb := put_belowD (g := w.heap.size + 1) hb (by omega) (.bool (ngB (od X))) (.slice A1 n1 c1) (.int .i64 (nE X e))
    replace x_r := x_r.put (ngB (od X)) A1 n1 c1 (nE X e)
    clear q_a0 q_a1 f_a0 f_a1 q_a2 f_a2 q_r0 q_r1 f_r0 f_r1 q_r2 f_r2
    generalize ((v2.setCell ⟨w.heap.size + 1, 0, none⟩ (.bool (ngB (od X)))).setCell ⟨w.heap.size + 1, 1, none⟩ (.slice A1 n1 c1)).setCell ⟨w.heap.size + 1, 2, none⟩ (.int .i64 (nE X e)) = v3 at *
    have q_a0 := x_a.c0; have q_a1 := x_a.c1; have f_a0 := x_a.fr 0; have f_a1 := x_a.fr 1; have q_a2 := x_a.c2; have f_a2 := x_a.fr 2
    have q_r0 := x_r.c0; have q_r1 := x_r.c1; have f_r0 := x_r.fr 0; have f_r1 := x_r.fr 1; have q_r2 := x_r.c2; have f_r2 := x_r.fr 2
    refine bodyPost_ret (v := .agg #[.bool (ngB (od X)), .slice A1 n1 c1, .int .i64 (nE X e)]) (by simp [results, Tryz.results89, go_sem, q_r0, q_r1, q_r2]) rfl ?_
    exact ⟨_, _, _, rfl, z1, hb⟩
  · obtain ⟨hM, hE⟩ := c_no (X := X) hr
    rw [hM, hE]
    clear hM hE
    rcases (show e < -4000 ∨ (¬ e < -4000 ∧ 4000 < e) by omega) with h1 | ⟨h1, h2⟩
    · skip
      go_enter Tryz.func89, Tryz.ntmps89
      go_wp2
      refine bodyPost_ret (v := .agg #[.bool false, .slice none 0 0, .int .i64 0]) (by simp [results, Tryz.results89, go_sem]) rfl ?_
      exact OutD.nil0 j rfl (below_alloc2 _ _ _)
    · skip
      go_enter Tryz.func89, Tryz.ntmps89
      go_wp2
      refine bodyPost_ret (v := .agg #[.bool false, .slice none 0 0, .int .i64 0]) (by simp [results, Tryz.results89, go_sem]) rfl ?_
      exact OutD.nil0 j rfl (below_alloc2 _ _ _)

set_option maxRecDepth 100000 in
set_option maxHeartbeats 2000000 in
theorem raised_any {b : Bool} {A : Option Addr} {n c : Nat} {X : Int} {j : Nat} {w : World} (h : Zr w b A n c X j) (q : Int) (hq : 0 ≤ q ∧ q ≤ 16000) (k : Nat) (hk : j + 256 ≤ k) (hj : k ≤ 100000) :
    Calls Tryz.prog 119 #[.agg #[.bool b, .slice A n c], .int .i64 q] w (OutZ w (X * 2 ^ q.toNat) k) := by
  by_cases hq0 : q ≤ 8000
  · have hv := raise1 (X := X) hq.1 hq0
    rw [← hv]
    clear hv
    have hng : ¬ 8000 < q := by omega
    go_enter Tryz.func119, Tryz.ntmps119
    go_wp2_with fail
    have x_m : Bx (w.alloc (.cells #[.bool b, .slice A n c] 24)) (w.heap.size) b A n c := by have := Bx.new w b A n c; simpa using this
    replace x_m := x_m.alloc (.cells #[.bool false, .slice none 0 0] 24)
    have x_r : Bx ((w.alloc (.cells #[.bool b, .slice A n c] 24)).alloc (.cells #[.bool false, .slice none 0 0] 24)) (w.heap.size + 1) false none 0 0 := by have := Bx.new (w.alloc (.cells #[.bool b, .slice A n c] 24)) false none 0 0; simpa using this
    have hb : Below w.heap.size w ((w.alloc (.cells #[.bool b, .slice A n c] 24)).alloc (.cells #[.bool false, .slice none 0 0] 24)) := (Below.alloc (Below.alloc (Below.refl w.heap.size w) (by simp) (.cells #[.bool b, .slice A n c] 24)) (by simp) (.cells #[.bool false, .slice none 0 0] 24))
    generalize (w.alloc (.cells #[.bool b, .slice A n c] 24)).alloc (.cells #[.bool false, .slice none 0 0] 24) = v1 at *
    replace h := h.keep hb
    have q_m0 := x_m.c0; have q_m1 := x_m.c1; have f_m0 := x_m.fr 0; have f_m1 := x_m.fr 1
    have q_r0 := x_r.c0; have q_r1 := x_r.c1; have f_r0 := x_r.fr 0; have f_r1 := x_r.fr 1
    refine wp_loop_rounds 1 ?_
    rw [rounds_succ]
    go_wp2_with fail
    with_reducible refine (RShlZ_any h q k (by omega) hj).mono ?_
    rintro e v2 ⟨A3, n3, c3, rfl, z3, hb1⟩
    replace x_m := x_m.keep hb1
    replace x_r := x_r.keep hb1
    replace h := h.keep hb1
    replace hb := bthen hb hb1
    clear hb1
    replace q_m0 := x_m.c0; replace q_m1 := x_m.c1; replace f_m0 := x_m.fr 0; replace f_m1 := x_m.fr 1
    replace q_r0 := x_r.c0; replace q_r1 := x_r.c1; replace f_r0 := x_r.fr 0; replace f_r1 := x_r.fr 1
    go_wp2
    replace x_m := x_m.aside (b' := (ngB (X * 2 ^ sc q))) (A' := A3) (n' := n3) (c' := c3) (g := w.heap.size + 1) (by omega)
    replace h := h.put (b' := (ngB (X * 2 ^ sc q))) (A' := A3) (n' := n3) (c' := c3) x_r
    replace z3 := z3.put (b' := (ngB (X * 2 ^ sc q))) (A' := A3) (n' := n3) (c' := c3) x_r
    replace hb := put_below (g := w.heap.size + 1) hb (by omega) (.bool (ngB (X * 2 ^ sc q))) (.slice A3 n3 c3)
    replace x_r := x_r.put (ngB (X * 2 ^ sc q)) A3 n3 c3
    clear q_m0 q_m1 f_m0 f_m1 q_r0 q_r1 f_r0 f_r1
    generalize (v2.setCell ⟨w.heap.size + 1, 0, none⟩ (.bool (ngB (X * 2 ^ sc q)))).setCell ⟨w.heap.size + 1, 1, none⟩ (.slice A3 n3 c3) = v3 at *
    have q_m0 := x_m.c0; have q_m1 := x_m.c1; have f_m0 := x_m.fr 0; have f_m1 := x_m.fr 1
    have q_r0 := x_r.c0; have q_r1 := x_r.c1; have f_r0 := x_r.fr 0; have f_r1 := x_r.fr 1
    refine bodyPost_ret (v := .agg #[.bool (ngB (X * 2 ^ sc q)), .slice A3 n3 c3]) (by simp [results, Tryz.results119, go_sem, q_r0, q_r1]) rfl ?_
    exact ⟨_, _, _, rfl, z3, hb⟩
  · have hv := raise2 (X := X) (n := q) (by omega) hq.2
    rw [← hv]
    clear hv
    have hng : 8000 < q := by omega
    have hng2 : ¬ 8000 < q - 8000 := by omega
    generalize hP : X * 2 ^ sc 8000 = P at *
    have HP := Lib.hid hP; clear hP
    have wq : IntKind.i64.wrap (q - 8000) = q - 8000 := IntWalk.i64_in _ ⟨by omega, by omega⟩
    go_enter Tryz.func119, Tryz.ntmps119
    go_wp2_with fail
    have x_m : Bx (w.alloc (.cells #[.bool b, .slice A n c] 24)) (w.heap.size) b A n c := by have := Bx.new w b A n c; simpa using this
    replace x_m := x_m.alloc (.cells #[.bool false, .slice none 0 0] 24)
    have x_r : Bx ((w.alloc (.cells #[.bool b, .slice A n c] 24)).alloc (.cells #[.bool false, .slice none 0 0] 24)) (w.heap.size + 1) false none 0 0 := by have := Bx.new (w.alloc (.cells #[.bool b, .slice A n c] 24)) false none 0 0; simpa using this
    have hb : Below w.heap.size w ((w.alloc (.cells #[.bool b, .slice A n c] 24)).alloc (.cells #[.bool false, .slice none 0 0] 24)) := (Below.alloc (Below.alloc (Below.refl w.heap.size w) (by simp) (.cells #[.bool b, .slice A n c] 24)) (by simp) (.cells #[.bool false, .slice none 0 0] 24))
    generalize (w.alloc (.cells #[.bool b, .slice A n c] 24)).alloc (.cells #[.bool false, .slice none 0 0] 24) = v1 at *
    replace h := h.keep hb
    have q_m0 := x_m.c0; have q_m1 := x_m.c1; have f_m0 := x_m.fr 0; have f_m1 := x_m.fr 1
    have q_r0 := x_r.c0; have q_r1 := x_r.c1; have f_r0 := x_r.fr 0; have f_r1 := x_r.fr 1
    refine wp_loop_rounds 2 ?_
    rw [rounds_succ]
    go_wp2_with fail
    with_reducible refine (RShlZ_any h 8000 (k - 128) (by omega) (by omega)).mono ?_
    rintro e v2 ⟨A2, n2, c2, rfl, z2, hb1⟩
    replace x_m := x_m.keep hb1
    replace x_r := x_r.keep hb1
    replace h := h.keep hb1
    replace hb := bthen hb hb1
    clear hb1
    replace q_m0 := x_m.c0; replace q_m1 := x_m.c1; replace f_m0 := x_m.fr 0; replace f_m1 := x_m.fr 1
    replace q_r0 := x_r.c0; replace q_r1 := x_r.c1; replace f_r0 := x_r.fr 0; replace f_r1 := x_r.fr 1
    rw [HP.out] at z2 ⊢
    clear h
    go_wp2_with fail
    replace x_r := x_r.aside (b' := (ngB P)) (A' := A2) (n' := n2) (c' := c2) (g := w.heap.size) (by omega)
    replace z2 := z2.put (b' := (ngB P)) (A' := A2) (n' := n2) (c' := c2) x_m
    replace hb := put_below (g := w.heap.size) hb (by omega) (.bool (ngB P)) (.slice A2 n2 c2)
    replace x_m := x_m.put (ngB P) A2 n2 c2
    clear q_m0 q_m1 f_m0 f_m1 q_r0 q_r1 f_r0 f_r1
    generalize (v2.setCell ⟨w.heap.size, 0, none⟩ (.bool (ngB P))).setCell ⟨w.heap.size, 1, none⟩ (.slice A2 n2 c2) = v3 at *
    have q_m0 := x_m.c0; have q_m1 := x_m.c1; have f_m0 := x_m.fr 0; have f_m1 := x_m.fr 1
    have q_r0 := x_r.c0; have q_r1 := x_r.c1; have f_r0 := x_r.fr 0; have f_r1 := x_r.fr 1
    rw [rounds_succ]
    go_wp2_with fail
    with_reducible refine (RShlZ_any z2.zr (q - 8000) k (by omega) hj).mono ?_
    rintro e v4 ⟨A3, n3, c3, rfl, z3, hb1⟩
    replace x_m := x_m.keep hb1
    replace x_r := x_r.keep hb1
    replace z2 := z2.keep hb1
    replace hb := bthen hb hb1
    clear hb1
    replace q_m0 := x_m.c0; replace q_m1 := x_m.c1; replace f_m0 := x_m.fr 0; replace f_m1 := x_m.fr 1
    replace q_r0 := x_r.c0; replace q_r1 := x_r.c1; replace f_r0 := x_r.fr 0; replace f_r1 := x_r.fr 1
    go_wp2
    replace x_m := x_m.aside (b' := (ngB (P * 2 ^ sc (q - 8000)))) (A' := A3) (n' := n3) (c' := c3) (g := w.heap.size + 1) (by omega)
    replace z2 := z2.put (b' := (ngB (P * 2 ^ sc (q - 8000)))) (A' := A3) (n' := n3) (c' := c3) x_r
    replace z3 := z3.put (b' := (ngB (P * 2 ^ sc (q - 8000)))) (A' := A3) (n' := n3) (c' := c3) x_r
    replace hb := put_below (g := w.heap.size + 1) hb (by omega) (.bool (ngB (P * 2 ^ sc (q - 8000)))) (.slice A3 n3 c3)
    replace x_r := x_r.put (ngB (P * 2 ^ sc (q - 8000))) A3 n3 c3
    clear q_m0 q_m1 f_m0 f_m1 q_r0 q_r1 f_r0 f_r1
    generalize (v4.setCell ⟨w.heap.size + 1, 0, none⟩ (.bool (ngB (P * 2 ^ sc (q - 8000))))).setCell ⟨w.heap.size + 1, 1, none⟩ (.slice A3 n3 c3) = v5 at *
    have q_m0 := x_m.c0; have q_m1 := x_m.c1; have f_m0 := x_m.fr 0; have f_m1 := x_m.fr 1
    have q_r0 := x_r.c0; have q_r1 := x_r.c1; have f_r0 := x_r.fr 0; have f_r1 := x_r.fr 1
    refine bodyPost_ret (v := .agg #[.bool (ngB (P * 2 ^ sc (q - 8000))), .slice A3 n3 c3]) (by simp [results, Tryz.results119, go_sem, q_r0, q_r1]) rfl ?_
    exact ⟨_, _, _, rfl, z3, hb⟩

set_option maxRecDepth 100000 in
set_option maxHeartbeats 1000000 in
theorem lower_any {b : Bool} {A : Option Addr} {n c : Nat} {X : Int} {j : Nat} {w : World} (h : Zr w b A n c X j) (q : Int) (hq : -8000 ≤ q ∧ q ≤ 16000) (k : Nat) (hk : j + 256 ≤ k) (hj : k ≤ 100000) :
    Calls Tryz.prog 90 #[.agg #[.bool b, .slice A n c], .int .i64 q] w (OutZ w (flI X q) k) := by
  by_cases hq0 : q < 0
  · have hv : X / 2 ^ sc (-q) = flI X q := by unfold flI; rw [if_pos hq0, sc_toNat (by omega) (by omega)]
    have hge : ¬ 0 ≤ q := by omega
    have HV := Lib.hid hv; clear hv
    go_enter Tryz.func90, Tryz.ntmps90
    go_wp2_with fail
    have x_m : Bx (w.alloc (.cells #[.bool b, .slice A n c] 24)) (w.heap.size) b A n c := by have := Bx.new w b A n c; simpa using this
    replace x_m := x_m.alloc (.cells #[.bool false, .slice none 0 0] 24)
    have x_r : Bx ((w.alloc (.cells #[.bool b, .slice A n c] 24)).alloc (.cells #[.bool false, .slice none 0 0] 24)) (w.heap.size + 1) false none 0 0 := by have := Bx.new (w.alloc (.cells #[.bool b, .slice A n c] 24)) false none 0 0; simpa using this
    have hb : Below w.heap.size w ((w.alloc (.cells #[.bool b, .slice A n c] 24)).alloc (.cells #[.bool false, .slice none 0 0] 24)) := (Below.alloc (Below.alloc (Below.refl w.heap.size w) (by simp) (.cells #[.bool b, .slice A n c] 24)) (by simp) (.cells #[.bool false, .slice none 0 0] 24))
    generalize (w.alloc (.cells #[.bool b, .slice A n c] 24)).alloc (.cells #[.bool false, .slice none 0 0] 24) = v1 at *
    replace h := h.keep hb
    have q_m0 := x_m.c0; have q_m1 := x_m.c1; have f_m0 := x_m.fr 0; have f_m1 := x_m.fr 1
    have q_r0 := x_r.c0; have q_r1 := x_r.c1; have f_r0 := x_r.fr 0; have f_r1 := x_r.fr 1
    go_wp2_with fail
    with_reducible refine (RShrZ_any h (-q) k (by omega) hj).mono ?_
    rintro e v2 ⟨A3, n3, c3, rfl, z3, hb1⟩
    replace x_m := x_m.keep hb1
    replace x_r := x_r.keep hb1
    replace h := h.keep hb1
    replace hb := bthen hb hb1
    clear hb1
    replace q_m0 := x_m.c0; replace q_m1 := x_m.c1; replace f_m0 := x_m.fr 0; replace f_m1 := x_m.fr 1
    replace q_r0 := x_r.c0; replace q_r1 := x_r.c1; replace f_r0 := x_r.fr 0; replace f_r1 := x_r.fr 1
    rw [HV.out] at z3 ⊢
    go_wp2
    replace x_m := x_m.aside (b' := (ngB (flI X q))) (A' := A3) (n' := n3) (c' := c3) (g := w.heap.size + 1) (by omega)
    replace h := h.put (b' := (ngB (flI X q))) (A' := A3) (n' := n3) (c' := c3) x_r
    replace z3 := z3.put (b' := (ngB (flI X q))) (A' := A3) (n' := n3) (c' := c3) x_r
    replace hb := put_below (g := w.heap.size + 1) hb (by omega) (.bool (ngB (flI X q))) (.slice A3 n3 c3)
    replace x_r := x_r.put (ngB (flI X q)) A3 n3 c3
    clear q_m0 q_m1 f_m0 f_m1 q_r0 q_r1 f_r0 f_r1
    generalize (v2.setCell ⟨w.heap.size + 1, 0, none⟩ (.bool (ngB (flI X q)))).setCell ⟨w.heap.size + 1, 1, none⟩ (.slice A3 n3 c3) = v3 at *
    have q_m0 := x_m.c0; have q_m1 := x_m.c1; have f_m0 := x_m.fr 0; have f_m1 := x_m.fr 1
    have q_r0 := x_r.c0; have q_r1 := x_r.c1; have f_r0 := x_r.fr 0; have f_r1 := x_r.fr 1
    refine bodyPost_ret (v := .agg #[.bool (ngB (flI X q)), .slice A3 n3 c3]) (by simp [results, Tryz.results90, go_sem, q_r0, q_r1]) rfl ?_
    exact ⟨_, _, _, rfl, z3, hb⟩
  · have hv : X * 2 ^ q.toNat = flI X q := by unfold flI; rw [if_neg hq0]
    have hge : 0 ≤ q := by omega
    have HV := Lib.hid hv; clear hv
    go_enter Tryz.func90, Tryz.ntmps90
    go_wp2_with fail
    have x_m : Bx (w.alloc (.cells #[.bool b, .slice A n c] 24)) (w.heap.size) b A n c := by have := Bx.new w b A n c; simpa using this
    replace x_m := x_m.alloc (.cells #[.bool false, .slice none 0 0] 24)
    have x_r : Bx ((w.alloc (.cells #[.bool b, .slice A n c] 24)).alloc (.cells #[.bool false, .slice none 0 0] 24)) (w.heap.size + 1) false none 0 0 := by have := Bx.new (w.alloc (.cells #[.bool b, .slice A n c] 24)) false none 0 0; simpa using this
    have hb : Below w.heap.size w ((w.alloc (.cells #[.bool b, .slice A n c] 24)).alloc (.cells #[.bool false, .slice none 0 0] 24)) := (Below.alloc (Below.alloc (Below.refl w.heap.size w) (by simp) (.cells #[.bool b, .slice A n c] 24)) (by simp) (.cells #[.bool false, .slice none 0 0] 24))
    generalize (w.alloc (.cells #[.bool b, .slice A n c] 24)).alloc (.cells #[.bool false, .slice none 0 0] 24) = v1 at *
    replace h := h.keep hb
    have q_m0 := x_m.c0; have q_m1 := x_m.c1; have f_m0 := x_m.fr 0; have f_m1 := x_m.fr 1
    have q_r0 := x_r.c0; have q_r1 := x_r.c1; have f_r0 := x_r.fr 0; have f_r1 := x_r.fr 1
    go_wp2_with fail
    with_reducible refine (raised_any h q (by omega) k hk hj).mono ?_
    rintro e v2 ⟨A3, n3, c3, rfl, z3, hb1⟩
    replace x_m := x_m.keep hb1
    replace x_r := x_r.keep hb1
    replace h := h.keep hb1
    replace hb := bthen hb hb1
    clear hb1
    replace q_m0 := x_m.c0; replace q_m1 := x_m.c1; replace f_m0 := x_m.fr 0; replace f_m1 := x_m.fr 1
    replace q_r0 := x_r.c0; replace q_r1 := x_r.c1; replace f_r0 := x_r.fr 0; replace f_r1 := x_r.fr 1
    rw [HV.out] at z3 ⊢
    go_wp2
    replace x_m := x_m.aside (b' := (ngB (flI X q))) (A' := A3) (n' := n3) (c' := c3) (g := w.heap.size + 1) (by omega)
    replace h := h.put (b' := (ngB (flI X q))) (A' := A3) (n' := n3) (c' := c3) x_r
    replace z3 := z3.put (b' := (ngB (flI X q))) (A' := A3) (n' := n3) (c' := c3) x_r
    replace hb := put_below (g := w.heap.size + 1) hb (by omega) (.bool (ngB (flI X q))) (.slice A3 n3 c3)
    replace x_r := x_r.put (ngB (flI X q)) A3 n3 c3
    clear q_m0 q_m1 f_m0 f_m1 q_r0 q_r1 f_r0 f_r1
    generalize (v2.setCell ⟨w.heap.size + 1, 0, none⟩ (.bool (ngB (flI X q)))).setCell ⟨w.heap.size + 1, 1, none⟩ (.slice A3 n3 c3) = v3 at *
    have q_m0 := x_m.c0; have q_m1 := x_m.c1; have f_m0 := x_m.fr 0; have f_m1 := x_m.fr 1
    have q_r0 := x_r.c0; have q_r1 := x_r.c1; have f_r0 := x_r.fr 0; have f_r1 := x_r.fr 1
    refine bodyPost_ret (v := .agg #[.bool (ngB (flI X q)), .slice A3 n3 c3]) (by simp [results, Tryz.results90, go_sem, q_r0, q_r1]) rfl ?_
    exact ⟨_, _, _, rfl, z3, hb⟩

set_option maxRecDepth 100000 in
set_option maxHeartbeats 2000000 in
theorem RFloor_any {b : Bool} {A : Option Addr} {n c : Nat} {X e : Int} {j : Nat} {w : World} (h : Zr w b A n c X j) (q : Int) (k : Nat) (hk : j + 256 ≤ k) (hj : j ≤ 12) (hk2 : k ≤ 100000) :
    Calls Tryz.prog 43 #[.agg #[.bool b, .slice A n c, .int .i64 e], .int .i64 q] w (OutZ w (flI (cM X e) (cE e + li q)) k) := by
  have hl := li_in q
  have hr := nE_rng (h.si.counted (e := e)) (cE_in e)
  have hwr : IntKind.i64.wrap (nE (cM X e) (cE e) + li q) = nE (cM X e) (cE e) + li q := IntWalk.i64_in _ ⟨by omega, by omega⟩
  have hv := flI_nf (X := cM X e) (e := cE e) (q := li q)
  have HV := Lib.hid hv; clear hv
  go_enter Tryz.func43, Tryz.ntmps43
  go_wp2_with fail
  have x_a : Dx (w.alloc (.cells #[.bool b, .slice A n c, .int .i64 e] 28)) (w.heap.size) b A n c e := by have := Dx.new w b A n c e; simpa using this
  replace x_a := x_a.alloc (.cells #[.bool false, .slice none 0 0] 24)
  have x_r : Bx ((w.alloc (.cells #[.bool b, .slice A n c, .int .i64 e] 28)).alloc (.cells #[.bool false, .slice none 0 0] 24)) (w.heap.size + 1) false none 0 0 := by have := Bx.new (w.alloc (.cells #[.bool b, .slice A n c, .int .i64 e] 28)) false none 0 0; simpa using this
  have hb : Below w.heap.size w ((w.alloc (.cells #[.bool b, .slice A n c, .int .i64 e] 28)).alloc (.cells #[.bool false, .slice none 0 0] 24)) := (Below.alloc (Below.alloc (Below.refl w.heap.size w) (by simp) (.cells #[.bool b, .slice A n c, .int .i64 e] 28)) (by simp) (.cells #[.bool false, .slice none 0 0] 24))
  generalize (w.alloc (.cells #[.bool b, .slice A n c, .int .i64 e] 28)).alloc (.cells #[.bool false, .slice none 0 0] 24) = v1 at *
  replace h := h.keep hb
  have q_a0 := x_a.c0; have q_a1 := x_a.c1; have f_a0 := x_a.fr 0; have f_a1 := x_a.fr 1; have q_a2 := x_a.c2; have f_a2 := x_a.fr 2
  have q_r0 := x_r.c0; have q_r1 := x_r.c1; have f_r0 := x_r.fr 0; have f_r1 := x_r.fr 1
  go_wp2_with fail
  with_reducible refine (counts_any h (by omega)).mono ?_
  rintro e v2 ⟨A1, n1, c1, rfl, zc, hb1⟩
  replace x_a := x_a.keep hb1
  replace x_r := x_r.keep hb1
  replace h := h.keep hb1
  replace hb := bthen hb hb1
  clear hb1
  replace q_a0 := x_a.c0; replace q_a1 := x_a.c1; replace f_a0 := x_a.fr 0; replace f_a1 := x_a.fr 1; replace q_a2 := x_a.c2; replace f_a2 := x_a.fr 2
  replace q_r0 := x_r.c0; replace q_r1 := x_r.c1; replace f_r0 := x_r.fr 0; replace f_r1 := x_r.fr 1
  clear h
  go_wp2_with fail
  replace x_r := x_r.asideD (b' := (ngB (od (cM X e)))) (A' := A1) (n' := n1) (c' := c1) (e' := (nE (cM X e) (cE e))) (g := w.heap.size) (by omega)
  replace zc := zc.putD (b' := (ngB (od (cM X e)))) (A' := A1) (n' := n1) (c' := c1) (e' := (nE (cM X e) (cE e))) x_a
  replace hb := put_belowD (g := w.heap.size) hb (by omega) (.bool (ngB (od (cM X e)))) (.slice A1 n1 c1) (.int .i64 (nE (cM X e) (cE e)))
  replace x_a := x_a.put (ngB (od (cM X e))) A1 n1 c1 (nE (cM X e) (cE e))
  clear q_a0 q_a1 f_a0 f_a1 q_a2 f_a2 q_r0 q_r1 f_r0 f_r1
  generalize ((v2.setCell ⟨w.heap.size, 0, none⟩ (.bool (ngB (od (cM X e))))).setCell ⟨w.heap.size, 1, none⟩ (.slice A1 n1 c1)).setCell ⟨w.heap.size, 2, none⟩ (.int .i64 (nE (cM X e) (cE e))) = v3 at *
  have q_a0 := x_a.c0; have q_a1 := x_a.c1; have f_a0 := x_a.fr 0; have f_a1 := x_a.fr 1; have q_a2 := x_a.c2; have f_a2 := x_a.fr 2
  have q_r0 := x_r.c0; have q_r1 := x_r.c1; have f_r0 := x_r.fr 0; have f_r1 := x_r.fr 1
  go_region_held3 (fun w' => w'.cell? ⟨w.heap.size, 0, none⟩ = some (.bool (ngB (od (cM X e)))) ∧ w'.cell? ⟨w.heap.size, 1, none⟩ = some (.slice A1 n1 c1) ∧ w'.cell? ⟨w.heap.size, 2, none⟩ = some (.int .i64 (nE (cM X e) (cE e))))
    (first | (with_reducible exact ⟨x_a.c0, x_a.c1, x_a.c2⟩) | (with_reducible exact ⟨(x_a.aside (by omega)).c0, (x_a.aside (by omega)).c1, (x_a.aside (by omega)).c2⟩) | (with_reducible exact ⟨((x_a.aside (by omega)).aside (by omega)).c0, ((x_a.aside (by omega)).aside (by omega)).c1, ((x_a.aside (by omega)).aside (by omega)).c2⟩) | (with_reducible exact ⟨(x_a.asideD (by omega)).c0, (x_a.asideD (by omega)).c1, (x_a.asideD (by omega)).c2⟩) | (with_reducible exact ⟨((x_a.asideD (by omega)).asideD (by omega)).c0, ((x_a.asideD (by omega)).asideD (by omega)).c1, ((x_a.asideD (by omega)).asideD (by omega)).c2⟩) | go_keep)
    (first | (go_at_call 91; (with_reducible refine (near_any q _).mono ?_); rintro e v4 ⟨rfl, hb1⟩; replace hb1 := undrew hb1; replace x_a := x_a.keep hb1; replace x_r := x_r.keep hb1; replace zc := zc.keep hb1; replace hb := bthen hb hb1; clear hb1; replace q_a0 := x_a.c0; replace q_a1 := x_a.c1; replace f_a0 := x_a.fr 0; replace f_a1 := x_a.fr 1; replace q_a2 := x_a.c2; replace f_a2 := x_a.fr 2; replace q_r0 := x_r.c0; replace q_r1 := x_r.c1; replace f_r0 := x_r.fr 0; replace f_r1 := x_r.fr 1) | (go_at_call 90; (with_reducible refine (lower_any zc.zr (nE (cM X e) (cE e) + li q) (by omega) k hk hk2).mono ?_); rintro e v5 ⟨A3, n3, c3, rfl, z3, hb1⟩; replace x_a := x_a.keep hb1; replace x_r := x_r.keep hb1; replace zc := zc.keep hb1; replace hb := bthen hb hb1; clear hb1; replace q_a0 := x_a.c0; replace q_a1 := x_a.c1; replace f_a0 := x_a.fr 0; replace f_a1 := x_a.fr 1; replace q_a2 := x_a.c2; replace f_a2 := x_a.fr 2; replace q_r0 := x_r.c0; replace q_r1 := x_r.c1; replace f_r0 := x_r.fr 0; replace f_r1 := x_r.fr 1; rw [HV.out] at z3 ⊢))
  go_wp2
  replace x_a := x_a.aside (b' := (ngB (flI (cM X e) (cE e + li q)))) (A' := A3) (n' := n3) (c' := c3) (g := w.heap.size + 1) (by omega)
  replace zc := zc.put (b' := (ngB (flI (cM X e) (cE e + li q)))) (A' := A3) (n' := n3) (c' := c3) x_r
  replace z3 := z3.put (b' := (ngB (flI (cM X e) (cE e + li q)))) (A' := A3) (n' := n3) (c' := c3) x_r
  replace hb := put_below (g := w.heap.size + 1) hb (by omega) (.bool (ngB (flI (cM X e) (cE e + li q)))) (.slice A3 n3 c3)
  replace x_r := x_r.put (ngB (flI (cM X e) (cE e + li q))) A3 n3 c3
  clear q_a0 q_a1 f_a0 f_a1 q_a2 f_a2 q_r0 q_r1 f_r0 f_r1
  generalize (v5.setCell ⟨w.heap.size + 1, 0, none⟩ (.bool (ngB (flI (cM X e) (cE e + li q))))).setCell ⟨w.heap.size + 1, 1, none⟩ (.slice A3 n3 c3) = v6 at *
  have q_a0 := x_a.c0; have q_a1 := x_a.c1; have f_a0 := x_a.fr 0; have f_a1 := x_a.fr 1; have q_a2 := x_a.c2; have f_a2 := x_a.fr 2
  have q_r0 := x_r.c0; have q_r1 := x_r.c1; have f_r0 := x_r.fr 0; have f_r1 := x_r.fr 1
  refine bodyPost_ret (v := .agg #[.bool (ngB (flI (cM X e) (cE e + li q))), .slice A3 n3 c3]) (by simp [results, Tryz.results43, go_sem, q_r0, q_r1]) rfl ?_
  exact ⟨_, _, _, rfl, z3, hb⟩

set_option maxRecDepth 100000 in
set_option maxHeartbeats 2000000 in
theorem RCeil_any {b : Bool} {A : Option Addr} {n c : Nat} {X e : Int} {j : Nat} {w : World} (h : Zr w b A n c X j) (q : Int) (k : Nat) (hk : j + 256 ≤ k) (hj : j ≤ 12) (hk2 : k ≤ 100000) :
    Calls Tryz.prog 44 #[.agg #[.bool b, .slice A n c, .int .i64 e], .int .i64 q] w (OutZ w (-flI (-cM X e) (cE e + li q)) k) := by
  have hl := li_in q
  have hr := nE_rng (h.si.counted (e := e)) (cE_in e)
  have hwr : IntKind.i64.wrap (nE (cM X e) (cE e) + li q) = nE (cM X e) (cE e) + li q := IntWalk.i64_in _ ⟨by omega, by omega⟩
  have hv : flI (-od (cM X e)) (nE (cM X e) (cE e) + li q) = flI (-cM X e) (cE e + li q) := by rw [← od_neg, ← nE_neg]; exact flI_nf
  have HV := Lib.hid hv; clear hv
  go_enter Tryz.func44, Tryz.ntmps44
  go_wp2_with fail
  have x_a : Dx (w.alloc (.cells #[.bool b, .slice A n c, .int .i64 e] 28)) (w.heap.size) b A n c e := by have := Dx.new w b A n c e; simpa using this
  replace x_a := x_a.alloc (.cells #[.bool false, .slice none 0 0] 24)
  have x_r : Bx ((w.alloc (.cells #[.bool b, .slice A n c, .int .i64 e] 28)).alloc (.cells #[.bool false, .slice none 0 0] 24)) (w.heap.size + 1) false none 0 0 := by have := Bx.new (w.alloc (.cells #[.bool b, .slice A n c, .int .i64 e] 28)) false none 0 0; simpa using this
  have hb : Below w.heap.size w ((w.alloc (.cells #[.bool b, .slice A n c, .int .i64 e] 28)).alloc (.cells #[.bool false, .slice none 0 0] 24)) := (Below.alloc (Below.alloc (Below.refl w.heap.size w) (by simp) (.cells #[.bool b, .slice A n c, .int .i64 e] 28)) (by simp) (.cells #[.bool false, .slice none 0 0] 24))
  generalize (w.alloc (.cells #[.bool b, .slice A n c, .int .i64 e] 28)).alloc (.cells #[.bool false, .slice none 0 0] 24) = v1 at *
  replace h := h.keep hb
  have q_a0 := x_a.c0; have q_a1 := x_a.c1; have f_a0 := x_a.fr 0; have f_a1 := x_a.fr 1; have q_a2 := x_a.c2; have f_a2 := x_a.fr 2
  have q_r0 := x_r.c0; have q_r1 := x_r.c1; have f_r0 := x_r.fr 0; have f_r1 := x_r.fr 1
  go_wp2_with fail
  with_reducible refine (counts_any h (by omega)).mono ?_
  rintro e v2 ⟨A1, n1, c1, rfl, zc, hb1⟩
  replace x_a := x_a.keep hb1
  replace x_r := x_r.keep hb1
  replace h := h.keep hb1
  replace hb := bthen hb hb1
  clear hb1
  replace q_a0 := x_a.c0; replace q_a1 := x_a.c1; replace f_a0 := x_a.fr 0; replace f_a1 := x_a.fr 1; replace q_a2 := x_a.c2; replace f_a2 := x_a.fr 2
  replace q_r0 := x_r.c0; replace q_r1 := x_r.c1; replace f_r0 := x_r.fr 0; replace f_r1 := x_r.fr 1
  clear h
  go_wp2_with fail
  replace x_r := x_r.asideD (b' := (ngB (od (cM X e)))) (A' := A1) (n' := n1) (c' := c1) (e' := (nE (cM X e) (cE e))) (g := w.heap.size) (by omega)
  replace zc := zc.putD (b' := (ngB (od (cM X e)))) (A' := A1) (n' := n1) (c' := c1) (e' := (nE (cM X e) (cE e))) x_a
  replace hb := put_belowD (g := w.heap.size) hb (by omega) (.bool (ngB (od (cM X e)))) (.slice A1 n1 c1) (.int .i64 (nE (cM X e) (cE e)))
  replace x_a := x_a.put (ngB (od (cM X e))) A1 n1 c1 (nE (cM X e) (cE e))
  clear q_a0 q_a1 f_a0 f_a1 q_a2 f_a2 q_r0 q_r1 f_r0 f_r1
  generalize ((v2.setCell ⟨w.heap.size, 0, none⟩ (.bool (ngB (od (cM X e))))).setCell ⟨w.heap.size, 1, none⟩ (.slice A1 n1 c1)).setCell ⟨w.heap.size, 2, none⟩ (.int .i64 (nE (cM X e) (cE e))) = v3 at *
  have q_a0 := x_a.c0; have q_a1 := x_a.c1; have f_a0 := x_a.fr 0; have f_a1 := x_a.fr 1; have q_a2 := x_a.c2; have f_a2 := x_a.fr 2
  have q_r0 := x_r.c0; have q_r1 := x_r.c1; have f_r0 := x_r.fr 0; have f_r1 := x_r.fr 1
  go_region_held3 (fun w' => w'.cell? ⟨w.heap.size, 0, none⟩ = some (.bool (ngB (od (cM X e)))) ∧ w'.cell? ⟨w.heap.size, 1, none⟩ = some (.slice A1 n1 c1) ∧ w'.cell? ⟨w.heap.size, 2, none⟩ = some (.int .i64 (nE (cM X e) (cE e))))
    (first | (with_reducible exact ⟨x_a.c0, x_a.c1, x_a.c2⟩) | (with_reducible exact ⟨(x_a.aside (by omega)).c0, (x_a.aside (by omega)).c1, (x_a.aside (by omega)).c2⟩) | (with_reducible exact ⟨((x_a.aside (by omega)).aside (by omega)).c0, ((x_a.aside (by omega)).aside (by omega)).c1, ((x_a.aside (by omega)).aside (by omega)).c2⟩) | (with_reducible exact ⟨(x_a.asideD (by omega)).c0, (x_a.asideD (by omega)).c1, (x_a.asideD (by omega)).c2⟩) | (with_reducible exact ⟨((x_a.asideD (by omega)).asideD (by omega)).c0, ((x_a.asideD (by omega)).asideD (by omega)).c1, ((x_a.asideD (by omega)).asideD (by omega)).c2⟩) | go_keep)
    (first | (go_at_call 92; (with_reducible refine (RNegZ_any zc.drw.zr j (Nat.le_refl _) (by omega)).mono ?_); rintro e v4 ⟨A2, n2, c2, rfl, z2, hb1⟩; replace hb1 := undrew hb1; replace x_a := x_a.keep hb1; replace x_r := x_r.keep hb1; replace zc := zc.keep hb1; replace hb := bthen hb hb1; clear hb1; replace q_a0 := x_a.c0; replace q_a1 := x_a.c1; replace f_a0 := x_a.fr 0; replace f_a1 := x_a.fr 1; replace q_a2 := x_a.c2; replace f_a2 := x_a.fr 2; replace q_r0 := x_r.c0; replace q_r1 := x_r.c1; replace f_r0 := x_r.fr 0; replace f_r1 := x_r.fr 1) | (go_at_call 91; (with_reducible refine (near_any q _).mono ?_); rintro e v5 ⟨rfl, hb1⟩; replace x_a := x_a.keep hb1; replace x_r := x_r.keep hb1; replace zc := zc.keep hb1; replace z2 := z2.keep hb1; replace hb := bthen hb hb1; clear hb1; replace q_a0 := x_a.c0; replace q_a1 := x_a.c1; replace f_a0 := x_a.fr 0; replace f_a1 := x_a.fr 1; replace q_a2 := x_a.c2; replace f_a2 := x_a.fr 2; replace q_r0 := x_r.c0; replace q_r1 := x_r.c1; replace f_r0 := x_r.fr 0; replace f_r1 := x_r.fr 1) | (go_at_call 90; (with_reducible refine (lower_any z2.zr (nE (cM X e) (cE e) + li q) (by omega) k hk hk2).mono ?_); rintro e v6 ⟨A3, n3, c3, rfl, z3, hb1⟩; replace x_a := x_a.keep hb1; replace x_r := x_r.keep hb1; replace zc := zc.keep hb1; replace z2 := z2.keep hb1; replace hb := bthen hb hb1; clear hb1; replace q_a0 := x_a.c0; replace q_a1 := x_a.c1; replace f_a0 := x_a.fr 0; replace f_a1 := x_a.fr 1; replace q_a2 := x_a.c2; replace f_a2 := x_a.fr 2; replace q_r0 := x_r.c0; replace q_r1 := x_r.c1; replace f_r0 := x_r.fr 0; replace f_r1 := x_r.fr 1; rw [HV.out] at z3 ⊢) | (go_at_call 92; (with_reducible refine (RNegZ_any z3.zr k (Nat.le_refl _) (by omega)).mono ?_); rintro e v7 ⟨A4, n4, c4, rfl, z4, hb1⟩; replace x_a := x_a.keep hb1; replace x_r := x_r.keep hb1; replace zc := zc.keep hb1; replace z2 := z2.keep hb1; replace z3 := z3.keep hb1; replace hb := bthen hb hb1; clear hb1; replace q_a0 := x_a.c0; replace q_a1 := x_a.c1; replace f_a0 := x_a.fr 0; replace f_a1 := x_a.fr 1; replace q_a2 := x_a.c2; replace f_a2 := x_a.fr 2; replace q_r0 := x_r.c0; replace q_r1 := x_r.c1; replace f_r0 := x_r.fr 0; replace f_r1 := x_r.fr 1))
  go_wp2
  replace x_a := x_a.aside (b' := (ngB (-flI (-cM X e) (cE e + li q)))) (A' := A4) (n' := n4) (c' := c4) (g := w.heap.size + 1) (by omega)
  replace zc := zc.put (b' := (ngB (-flI (-cM X e) (cE e + li q)))) (A' := A4) (n' := n4) (c' := c4) x_r
  replace z2 := z2.put (b' := (ngB (-flI (-cM X e) (cE e + li q)))) (A' := A4) (n' := n4) (c' := c4) x_r
  replace z3 := z3.put (b' := (ngB (-flI (-cM X e) (cE e + li q)))) (A' := A4) (n' := n4) (c' := c4) x_r
  replace z4 := z4.put (b' := (ngB (-flI (-cM X e) (cE e + li q)))) (A' := A4) (n' := n4) (c' := c4) x_r
  replace hb := put_below (g := w.heap.size + 1) hb (by omega) (.bool (ngB (-flI (-cM X e) (cE e + li q)))) (.slice A4 n4 c4)
  replace x_r := x_r.put (ngB (-flI (-cM X e) (cE e + li q))) A4 n4 c4
  clear q_a0 q_a1 f_a0 f_a1 q_a2 f_a2 q_r0 q_r1 f_r0 f_r1
  generalize (v7.setCell ⟨w.heap.size + 1, 0, none⟩ (.bool (ngB (-flI (-cM X e) (cE e + li q))))).setCell ⟨w.heap.size + 1, 1, none⟩ (.slice A4 n4 c4) = v8 at *
  have q_a0 := x_a.c0; have q_a1 := x_a.c1; have f_a0 := x_a.fr 0; have f_a1 := x_a.fr 1; have q_a2 := x_a.c2; have f_a2 := x_a.fr 2
  have q_r0 := x_r.c0; have q_r1 := x_r.c1; have f_r0 := x_r.fr 0; have f_r1 := x_r.fr 1
  refine bodyPost_ret (v := .agg #[.bool (ngB (-flI (-cM X e) (cE e + li q))), .slice A4 n4 c4]) (by simp [results, Tryz.results44, go_sem, q_r0, q_r1]) rfl ?_
  exact ⟨_, _, _, rfl, z4, hb⟩
end
end Go.Proofs.YtiigacddjihokaaGreatDoor
namespace Go.Proofs.YtiigacddjihokaaGreatDoor
section
set_option maxRecDepth 100000
open Go.RowKit
set_option linter.unusedVariables false

theorem alP_all (X e f : Int) : vd (alP X e f) (alE e f) = vd (cM X e) (cE e) := by
  unfold alP
  exact vd_low (by unfold alE; omega) (alE_in e f).1
theorem alQ_all (Y e f : Int) : vd (alQ Y e f) (alE e f) = vd (cM Y f) (cE f) := by
  unfold alQ
  exact vd_low (by unfold alE; omega) (alE_in e f).1
/-- The document's sum is the program's. -/
theorem add_ref {X Y e f m : Int} (h1 : m ≤ nE (cM X e) (cE e)) (h2 : m ≤ nE (cM Y f) (cE f)) (h0 : -4000 ≤ m) :
    od (od (cM X e) * 2 ^ (nE (cM X e) (cE e) - m).toNat + od (cM Y f) * 2 ^ (nE (cM Y f) (cE f) - m).toNat) = od (alP X e f + alQ Y e f) ∧
    nE (od (cM X e) * 2 ^ (nE (cM X e) (cE e) - m).toNat + od (cM Y f) * 2 ^ (nE (cM Y f) (cE f) - m).toNat) m = nE (alP X e f + alQ Y e f) (alE e f) := by
  refine vd_same h0 (alE_in e f).1 ?_
  rw [vd_add, vd_low h1 h0, vd_low h2 h0, vd_nf (cE_in e).1, vd_nf (cE_in f).1, vd_add, alP_all, alQ_all]
theorem sub_ref {X Y e f m : Int} (h1 : m ≤ nE (cM X e) (cE e)) (h2 : m ≤ nE (cM Y f) (cE f)) (h0 : -4000 ≤ m) :
    od (od (cM X e) * 2 ^ (nE (cM X e) (cE e) - m).toNat - od (cM Y f) * 2 ^ (nE (cM Y f) (cE f) - m).toNat) = od (alP X e f - alQ Y e f) ∧
    nE (od (cM X e) * 2 ^ (nE (cM X e) (cE e) - m).toNat - od (cM Y f) * 2 ^ (nE (cM Y f) (cE f) - m).toNat) m = nE (alP X e f - alQ Y e f) (alE e f) := by
  refine vd_same h0 (alE_in e f).1 ?_
  rw [vd_sub, vd_low h1 h0, vd_low h2 h0, vd_nf (cE_in e).1, vd_nf (cE_in f).1, vd_sub, alP_all, alQ_all]
theorem mul_ref (X Y e f : Int) : od (od X * od Y) = od (X * Y) ∧ nE (od X * od Y) (nE X e + nE Y f) = nE (X * Y) (e + f) := by
  by_cases hX : X = 0
  · subst hX; rw [od_zero, Int.zero_mul, Int.zero_mul]; exact ⟨rfl, rfl⟩
  · by_cases hY : Y = 0
    · subst hY; rw [od_zero, Int.mul_zero, Int.mul_zero]; exact ⟨rfl, rfl⟩
    · have h1 := (tz_spec hX).1
      have h2 := (tz_spec hY).1
      rw [nE_ne hX, nE_ne hY]
      generalize od X = a at *
      generalize od Y = b at *
      generalize tz X = s at *
      generalize tz Y = t at *
      subst h1 h2
      have e1 : a * 2 ^ s * (b * 2 ^ t) = a * b * 2 ^ (s + t) := by
        rw [Int.pow_add, Int.mul_assoc, Int.mul_left_comm (2 ^ s) b, ← Int.mul_assoc]
      rw [e1, od_shl, nE_shl]
      exact ⟨rfl, by congr 1; omega⟩
theorem neg_ref (X e : Int) : od (-od X) = od (-X) ∧ nE (-od X) (nE X e) = nE (-X) e := by
  have h := od_nf (X := X) (e := e)
  rw [od_neg, od_neg, h.1, nE_neg, nE_neg, h.2]
  exact ⟨rfl, rfl⟩
theorem shift_ref (X e q : Int) : od (od X) = od X ∧ nE (od X) (nE X e + q) = nE X (e + q) := by
  refine ⟨(od_nf (X := X) (e := e)).1, ?_⟩
  by_cases h : X = 0
  · subst h; rw [od_zero]; rfl
  · have h2 := nf_unique (X := od X) (t := 0) (by omega) (tz_spec h).2
    rw [nE_ne h, nE_ne h, nE_ne (od_ne h), h2.1]; omega

end
end Go.Proofs.YtiigacddjihokaaGreatDoor
namespace Go.Proofs.YtiigacddjihokaaGreatDoor
section
set_option maxRecDepth 100000
open Go.RowKit
set_option linter.unusedVariables false

theorem bl_shl2 {N : Nat} (h : 0 < N) (k : Nat) : bl (N * 2 ^ k) = bl N + k := by
  have p1 := bl_pos h
  have h1 : 2 ^ (bl N - 1) ≤ N := le_of_bl (k := bl N - 1) (by omega)
  have a : 2 ^ (bl N - 1 + k) ≤ N * 2 ^ k := by rw [Nat.pow_add]; exact Nat.mul_le_mul_right _ h1
  have b : N * 2 ^ k < 2 ^ (bl N + k) := by rw [Nat.pow_add]; exact Nat.mul_lt_mul_of_pos_right (lt_bl N) (Nat.two_pow_pos k)
  have c := bl_ge a
  have d := bl_le b
  omega
theorem lg_ref (X e : Int) : (X = 0 → bl (od X).natAbs = 0) ∧ (X ≠ 0 → 0 < bl (od X).natAbs ∧ nE X e + bl (od X).natAbs - 1 = e + bl X.natAbs - 1) := by
  constructor
  · intro h; subst h; rw [od_zero]; have := bl_le (n := 0) (k := 0) (by omega); show bl 0 = 0; omega
  · intro h
    have h1 := congrArg Int.natAbs (tz_spec h).1
    rw [Int.natAbs_mul, pow_cast, Int.natAbs_natCast] at h1
    have h2 : 0 < (od X).natAbs := by have := od_ne h; omega
    have h3 := bl_shl2 h2 (tz X)
    rw [← h1] at h3
    refine ⟨bl_pos h2, ?_⟩
    rw [nE_ne h]; omega

end
end Go.Proofs.YtiigacddjihokaaGreatDoor
namespace Go.Proofs.YtiigacddjihokaaGreatDoor
section
set_option maxRecDepth 100000
open Go.RowKit
set_option linter.unusedVariables false

end
end Go.Proofs.YtiigacddjihokaaGreatDoor
