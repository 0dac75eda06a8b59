/-
 point: the patterns of whole numbers and of powers of two.
-/
import Derived.Test.YtdonaominffpnaaGreatDoorPg
import Derived.Laws.BitsAllLaws
import Derived.Test.YtdonaominffpnaaGreatDoorPe
namespace Go.Proofs.YtdonaominffpnaaGreatDoor
variable {N b : Nat} {X e : Int}
set_option linter.unusedVariables false
open Go.RowKit
def fdN (b : Nat) : Nat := b / 4503599627370496 % 2048
def frN (b : Nat) : Nat := b % 4503599627370496
def sgN (b : Nat) : Bool := decide (9223372036854775808 ≤ b)
def nmN (b : Nat) : Bool := decide (fdN b ≠ 0 ∧ fdN b ≠ 2047)
def mnN (b : Nat) : Nat := if fdN b = 0 then frN b else frN b + 4503599627370496
def exN (b : Nat) : Int := if fdN b = 0 then -1074 else (fdN b : Int) - 1075
theorem fdN_lt (b : Nat) : fdN b < 2048 := Nat.mod_lt _ (by omega)
theorem frN_lt (b : Nat) : frN b < 4503599627370496 := Nat.mod_lt _ (by omega)
theorem mnN_lt (b : Nat) : mnN b < 9007199254740992 := by have := frN_lt b; unfold mnN; split <;> omega
theorem exN_num (h : fdN b ≠ 2047) : -1074 ≤ exN b ∧ exN b ≤ 971 := by have := fdN_lt b; unfold exN; split <;> omega
theorem and_field (b : Nat) (h : b < 18446744073709551616) : bits .and .u64 ((b : Int) / 4503599627370496) 2047 = (fdN b : Int) := by
 have e1 : (b : Int) / 4503599627370496 = ((b / 4503599627370496 : Nat) : Int) := by omega
 have e2 := u64_and_nat (b / 4503599627370496) 2047 (by omega) (by omega)
 have e3 := Nat.and_two_pow_sub_one_eq_mod (b / 4503599627370496) 11
 rw [e1]
 refine e2.trans ?_
 unfold fdN
 exact congrArg _ e3
theorem and_frac (b : Nat) (h : b < 18446744073709551616) : bits .and .u64 (b : Int) 4503599627370495 = (frN b : Int) := by
 have e2 := u64_and_nat b 4503599627370495 h (by omega)
 have e3 := Nat.and_two_pow_sub_one_eq_mod b 52
 refine e2.trans ?_
 unfold frN
 exact congrArg _ e3
theorem and_sign (b : Nat) (h : b < 18446744073709551616) : bits .and .u64 (b : Int) 9223372036854775808 = if sgN b then 9223372036854775808 else 0 := by
 have e2 := u64_and_nat b 9223372036854775808 h (by omega)
 refine e2.trans ?_
 have e3 := Nat.and_mod_two_pow (a := b) (b := 9223372036854775808) (n := 63)
 have e4 := top_and b 9223372036854775808
 rw [show 9223372036854775808 / 9223372036854775808 = 1 from rfl, Nat.and_one_is_mod] at e4
 rw [show 9223372036854775808 % 2 ^ 63 = 0 from rfl, Nat.and_zero] at e3
 generalize b &&& 9223372036854775808 = t at *
 unfold sgN
 by_cases hs : 9223372036854775808 ≤ b <;> simp [hs] <;> omega
theorem or_sign (b : Nat) (h : b < 9223372036854775808) : bits .or .u64 (b : Int) 9223372036854775808 = ((b + 9223372036854775808 : Nat) : Int) := by
 have e2 := u64_or_nat b 9223372036854775808 (by omega) (by omega)
 refine e2.trans ?_
 have e3 : 9223372036854775808 + b = 9223372036854775808 ||| b := by
  have := Nat.two_pow_add_eq_or_of_lt (b := b) (i := 63) (by omega) 1
  simpa using this
 rw [Nat.or_comm, ← e3, Nat.add_comm]
theorem fd_small (h : b < 9218868437227405312) : fdN b = b / 4503599627370496 ∧ fdN b < 2047 ∧ sgN b = false := by
 unfold fdN sgN
 refine ⟨by omega, by omega, ?_⟩
 simp; omega
theorem join_is {m : Nat} (h0 : 4503599627370496 ≤ m) (h1 : m < 9007199254740992) (he : -1074 ≤ e ∧ e ≤ 971) {b : Nat} (hb : b = (e + 1074).toNat * 4503599627370496 + m) :
  b < 9218868437227405312 ∧ fdN b ≠ 0 ∧ fdN b ≠ 2047 ∧ mnN b = m ∧ exN b = e ∧ nmN b = true := by
 have hlt : b < 9218868437227405312 := by omega
 have f := fd_small hlt
 have hf : fdN b = (e + 1074).toNat + 1 := by rw [f.1]; omega
 have hr : frN b = m - 4503599627370496 := by unfold frN; omega
 refine ⟨hlt, by omega, by omega, ?_, ?_, ?_⟩
 ·unfold mnN; rw [if_neg (by omega), hr]; omega
 ·unfold exN; rw [if_neg (by omega), hf]; omega
 ·unfold nmN; rw [hf]; simp; omega
theorem bl_two (h : 0 < N) : 2 ^ (bl N - 1) ≤ N ∧ N < 2 ^ bl N := by
 refine ⟨?_, lt_bl N⟩
 have hp := bl_pos h
 exact le_of_bl (k := bl N - 1) (by omega)
theorem bl_shl (h : 0 < N) (k : Nat) : bl (N * 2 ^ k) = bl N + k := by
 have h1 := bl_two h
 have p1 := bl_pos h
 have a : 2 ^ (bl N - 1 + k) ≤ N * 2 ^ k := by rw [Nat.pow_add]; exact Nat.mul_le_mul_right _ h1.1
 have b : N * 2 ^ k < 2 ^ (bl N + k) := by rw [Nat.pow_add]; exact Nat.mul_lt_mul_of_pos_right h1.2 (Nat.two_pow_pos k)
 have c := bl_ge a
 have d := bl_le b
 omega
theorem lg_nf (h : X ≠ 0) : lgI (od X) (nE X e) = e + bl X.natAbs - 1 := by
 unfold lgI
 rw [if_neg (od_ne h), nE_ne h]
 have h1 := congrArg Int.natAbs (tz_spec h).1
 rw [Int.natAbs_mul, pow_cast, Int.natAbs_natCast] at h1
 have h2 : 0 < (od X).natAbs := by have := od_ne h; omega
 have h3 := bl_shl h2 (tz X)
 rw [← h1] at h3
 omega
theorem lg_of (h : X ≠ 0) : lgI X e = e + bl X.natAbs - 1 := by unfold lgI; rw [if_neg h]
theorem od_one : od 1 = 1 := by decide
theorem nE_one (e : Int) : nE 1 e = e := by unfold nE; rw [if_neg (by omega), show tz 1 = 0 from by decide]; omega
end Go.Proofs.YtdonaominffpnaaGreatDoor
namespace Go.Proofs.YtdonaominffpnaaGreatDoor
set_option maxRecDepth 100000
set_option maxHeartbeats 1000000
set_option linter.unusedVariables false
open Go.RowKit
theorem ret_u {a b : Int} {k : IntKind} (h : a = b) : Ending.returned (.int k a) = .returned (.int k b) := by rw [h]
theorem nm_eq (n : Nat) : ((n : Int) != 0 && (n : Int) != 2047) = decide (n ≠ 0 ∧ n ≠ 2047) := by
 by_cases h0 : n = 0
 ·subst h0; rfl
 ·by_cases h1 : n = 2047
  ·subst h1; rfl
  ·have a : ((n : Int) != 0) = true := by simp; omega
   have b : ((n : Int) != 2047) = true := by simp; omega
   rw [a, b]; simp [h0, h1]
theorem ret_b {a b : Bool} (h : a = b) : Ending.returned (.bool a) = .returned (.bool b) := by rw [h]
theorem Parts_any (x : Int) (b : Nat) (hx : x = b) (hl : b < 18446744073709551616) {w : World} :
  Calls Tryz.prog 85 #[.int .u64 x] w fun en w' => en = .returned (.tuple #[.bool (sgN b), .int .i64 (fdN b), .int .u64 (frN b)]) ∧ Below w.heap.size w w' := by
 subst hx
 have k1 := and_field b hl
 have k2 := and_frac b hl
 have k0 := and_sign b hl
 obtain ⟨S, k3, k4⟩ : ∃ S, bits .and .u64 (b : Int) 9223372036854775808 = S ∧ (S == 0) = !sgN b := ⟨_, rfl, by rw [k0]; cases sgN b <;> rfl⟩
 have h1 := fdN_lt b
 have hw : IntKind.i64.wrap (fdN b : Int) = fdN b := wrap_in (by omega) (by omega)
 clear k0
 go_enter Tryz.func85, Tryz.ntmps85
 go_wp2_with (simp only [k1, k2, k3])
 have hb := Below.refl w.heap.size w
 have k5 : (S != 0) = sgN b := by rw [bne, k4, Bool.not_not]
 refine bodyPost_ret (v := .tuple #[.bool (sgN b), .int .i64 (fdN b), .int .u64 (frN b)]) (by simp [results, Tryz.results85, go_sem, k5]) rfl ?_
 exact ⟨rfl, hb⟩
theorem Normal_any (x : Int) (b : Nat) (hx : x = b) (hl : b < 18446744073709551616) {w : World} :
  Calls Tryz.prog 48 #[.int .u64 x] w fun en w' => en = .returned (.bool (nmN b)) ∧ Below w.heap.size w w' := by
 subst hx
 have hb := Below.refl w.heap.size w
 go_enter Tryz.func48, Tryz.ntmps48
 go_wp2_with fail
 with_reducible refine (Parts_any _ b rfl hl).mono ?_
 rintro e v1 ⟨rfl, hb1⟩
 replace hb := bthen hb hb1
 clear hb1
 go_wp2
 all_goals go_ret
 all_goals refine ⟨ret_b ?_, hb⟩
 ·rename_i h0; unfold nmN; simp [h0]
 ·exact nm_eq _
theorem join_any (m e : Int) (M : Nat) (hm : m = M) (hM : M < 9007199254740992) (he : -1074 ≤ e ∧ e ≤ 971) {w : World} :
  Calls Tryz.prog 67 #[.int .u64 m, .int .i64 e] w fun en w' => en = .returned (.int .u64 (((e + 1074).toNat * 4503599627370496 + M : Nat) : Int)) ∧ Below w.heap.size w w' := by
 subst hm
 have w1 : IntKind.i64.wrap (e + 1074) = e + 1074 := wrap_in (by omega) (by omega)
 have w1b : IntKind.i64.wrap (e - -1074) = e + 1074 := by rw [show e - -1074 = e + 1074 by omega, w1]
 have w2 : IntKind.u64.wrap (e + 1074) = e + 1074 := by rw [wrap_u64]; omega
 have w3 : IntKind.u64.wrap ((e + 1074) * 4503599627370496) = (e + 1074) * 4503599627370496 := by rw [wrap_u64]; omega
 have w4 : IntKind.u64.wrap ((e + 1074) * 4503599627370496 + M) = (e + 1074) * 4503599627370496 + M := by rw [wrap_u64]; omega
 have hb := Below.refl w.heap.size w
 go_enter Tryz.func67, Tryz.ntmps67
 go_wp2
 go_ret
 refine ⟨ret_u ?_, hb⟩
 omega
theorem join_at (m e : Int) (M J : Nat) (hm : m = M) (hM : M < 9007199254740992) (he : -1074 ≤ e ∧ e ≤ 971) (hJ : (e + 1074).toNat * 4503599627370496 + M = J) {w : World} :
  Calls Tryz.prog 67 #[.int .u64 m, .int .i64 e] w fun en w' => en = .returned (.int .u64 (J : Int)) ∧ Below w.heap.size w w' := by
 subst hJ; exact join_any m e M hm hM he
end Go.Proofs.YtdonaominffpnaaGreatDoor
namespace Go.Proofs.YtdonaominffpnaaGreatDoor
set_option maxRecDepth 100000
set_option maxHeartbeats 4000000
set_option linter.unusedVariables false
open Go.RowKit
theorem tup_ui {a b c d : Int} {k l : IntKind} (h : a = b) (h2 : c = d) : Ending.returned (.tuple #[.int k a, .int l c]) = .returned (.tuple #[.int k b, .int l d]) := by rw [h, h2]
theorem zr_one {w : World} {A : Option Addr} {M : Nat} {s : Bool} (h : Rd w w.heap.size A 1 1 [(M : Int)]) : Zr w s A 1 1 (zi s M) 1 :=
 ⟨_, h, by rw [vl_cons]; simp [vl], Nat.le_refl _⟩
theorem dg_small1 {N : Nat} (h0 : 0 < N) (h : N < 9007199254740992) : dg Wd N = [(N : Int)] := dg_lit1 (by rw [Wd_eq]; omega) h0
def ValPost (w : World) (b : Nat) (e : Ending) (w' : World) : Prop := ∃ A n c, e = .returned (.tuple #[.agg #[.bool (ngB (od (zi (sgN b) (mnN b)))), .slice A n c, .int .i64 (nE (zi (sgN b) (mnN b)) (exN b))], .int .i64 0]) ∧ Zn w' A n c (od (zi (sgN b) (mnN b))) 2 ∧ Below w.heap.size w w'
theorem First_yes (e : Int) (he : -1022 ≤ e ∧ e ≤ 1023) {w : World} :
  Calls Tryz.prog 26 #[.int .i64 e] w fun en w' => en = .returned (.tuple #[.int .u64 (((e + 1023).toNat * 4503599627370496 : Nat) : Int), .int .i64 0]) ∧ Below w.heap.size w w' := by
 have hb := Below.refl w.heap.size w
 have w1 : IntKind.i64.wrap (e - 52) = e - 52 := wrap_in (by omega) (by omega)
 have h1 : ¬ e < -1022 := by omega
 have h2 : ¬ 1023 < e := by omega
 go_enter Tryz.func26, Tryz.ntmps26
 go_wp2_with fail
 with_reducible refine (join_any 4503599627370496 (e - 52) 4503599627370496 rfl (by omega) (by omega)).mono ?_
 rintro e v1 ⟨rfl, hb1⟩
 replace hb := bthen hb hb1
 clear hb1
 go_wp2
 go_ret2
 exact ⟨tup_ui (by omega) rfl, hb⟩
theorem Value_any (x : Int) (b : Nat) (hx : x = b) (hl : b < 18446744073709551616) {w : World} (hT : Tab w) (hf : fdN b ≠ 2047) :
  Calls Tryz.prog 49 #[.int .u64 x] w (ValPost w b) := by
 subst hx
 have hf1 : ((fdN b : Int) == 2047) = false := by simp; omega
 have hx1 := exN_num hf
 have hfl := fdN_lt b
 have hrl := frN_lt b
 obtain ⟨ce, cx⟩ : cM (zi (sgN b) (mnN b)) (exN b) = zi (sgN b) (mnN b) ∧ cE (exN b) = exN b := c_yes (by omega)
 have HCE := Lib.hid ce; have HCX := Lib.hid cx; clear ce cx
 by_cases h0 : fdN b = 0
 ·have hn : nmN b = false := by unfold nmN; simp [h0]
  have hm : mnN b = frN b := by unfold mnN; rw [if_pos h0]
  have he : exN b = -1074 := by unfold exN; rw [if_pos h0]
  rw [hm, he] at HCE
  rw [he] at HCX
  have HM := Lib.hid hm; have HE := Lib.hid he; clear hm he
  have hlm : Lm ((frN b : Nat) : Int) := lm_small (by omega) (by have := frN_lt b; omega)
  go_enter Tryz.func49, Tryz.ntmps49
  go_wp2_with fail
  have x_r : Dx (w.alloc (.cells #[.bool false, .slice none 0 0, .int .i64 0] 55)) (w.heap.size) false none 0 0 0 := by have := Dx.new w false none 0 0 0; simpa using this
  have hb : Below w.heap.size w (w.alloc (.cells #[.bool false, .slice none 0 0, .int .i64 0] 55)) := (Below.alloc (Below.refl w.heap.size w) (by simp) (.cells #[.bool false, .slice none 0 0, .int .i64 0] 55))
  generalize w.alloc (.cells #[.bool false, .slice none 0 0, .int .i64 0] 55) = v1 at *
  replace hT := hT.keep hb
  have q_r := x_r.al
  go_wp2_with fail
  with_reducible refine (Parts_any _ b rfl hl).mono ?_
  rintro e v2 ⟨rfl, hb1⟩
  obtain ⟨x_r, hT⟩ := mv2 hb1 x_r hT
  replace hb := bthen hb hb1
  clear hb1
  replace q_r := x_r.al
  go_wp2_with fail
  with_reducible refine (Normal_any _ b rfl hl).mono ?_
  rintro e v3 ⟨rfl, hb1⟩
  obtain ⟨x_r, hT⟩ := mv2 hb1 x_r hT
  replace hb := bthen hb hb1
  clear hb1
  replace q_r := x_r.al
  rw [hn]
  go_wp2_with fail
  have hb1 := below_alloc v3 (.cells #[.int .u64 (frN b : Nat)] 36)
  obtain ⟨x_r, hT⟩ := mv2 hb1 x_r hT
  replace hb := bthen hb hb1
  clear hb1
  replace q_r := x_r.al
  have u1 := lay1 v3 (frN b : Nat) hlm
  clear q_r
  generalize v3.alloc (.cells #[.int .u64 (frN b : Nat)] 36) = v4 at *
  have q_r := x_r.al
  go_wp2_with fail
  with_reducible refine (DOf_any (zr_one u1) hT 2 (by omega) (by omega)).mono ?_
  rintro e v5 ⟨A2, n2, c2, rfl, z2, hb1⟩
  obtain ⟨x_r, hT⟩ := mv2 hb1 x_r hT
  replace u1 := u1.go hb1
  replace hb := bthen hb hb1
  clear hb1
  replace q_r := x_r.al
  rw [HCE.out, HCX.out]
  rw [HCE.out] at z2
  go_wp2
  replace hT := hT.putD (b' := (ngB (od (zi (sgN b) (frN b))))) (A' := A2) (n' := n2) (c' := c2) (e' := (nE (zi (sgN b) (frN b)) (-1074))) x_r
  replace u1 := u1.sputD (b' := (ngB (od (zi (sgN b) (frN b))))) (A' := A2) (n' := n2) (c' := c2) (e' := (nE (zi (sgN b) (frN b)) (-1074))) x_r
  replace z2 := z2.putD (b' := (ngB (od (zi (sgN b) (frN b))))) (A' := A2) (n' := n2) (c' := c2) (e' := (nE (zi (sgN b) (frN b)) (-1074))) x_r
  replace hb := put_belowD (g := w.heap.size) hb (by omega) (.bool (ngB (od (zi (sgN b) (frN b))))) (.slice A2 n2 c2) (.int .i64 (nE (zi (sgN b) (frN b)) (-1074)))
  replace x_r := x_r.put (ngB (od (zi (sgN b) (frN b)))) A2 n2 c2 (nE (zi (sgN b) (frN b)) (-1074))
  clear q_r
  generalize ((v5.setCell ⟨w.heap.size, 0, none⟩ (.bool (ngB (od (zi (sgN b) (frN b)))))).setCell ⟨w.heap.size, 1, none⟩ (.slice A2 n2 c2)).setCell ⟨w.heap.size, 2, none⟩ (.int .i64 (nE (zi (sgN b) (frN b)) (-1074))) = v6 at *
  have q_r := x_r.al
  refine bodyPost_ret (v := .tuple #[.agg #[.bool (ngB (od (zi (sgN b) (frN b)))), .slice A2 n2 c2, .int .i64 (nE (zi (sgN b) (frN b)) (-1074))], .int .i64 0]) (by simp [results, Tryz.results49, go_sem, q_r]) rfl ?_
  exact ⟨_, _, _, by rw [HM.out, HE.out], by rw [HM.out]; exact z2, hb⟩
 ·have hn : nmN b = true := by unfold nmN; simp [h0, hf]
  have hm : mnN b = frN b + 4503599627370496 := by unfold mnN; rw [if_neg h0]
  have he : exN b = (fdN b : Int) - 1075 := by unfold exN; rw [if_neg h0]
  have w1 : IntKind.u64.wrap ((frN b : Int) + 4503599627370496) = ((mnN b : Nat) : Int) := by rw [hm, wrap_u64]; omega
  have w2 : IntKind.i64.wrap ((fdN b : Int) - 1) = fdN b - 1 := wrap_in (by omega) (by omega)
  have w3 : IntKind.i64.wrap (-1074 + ((fdN b : Int) - 1)) = exN b := by rw [he, wrap_in (by omega) (by omega)]; omega
  have HM := Lib.hid hm; have HE := Lib.hid he; clear hm he
  have hlm : Lm ((mnN b : Nat) : Int) := lm_small (by omega) (by have := mnN_lt b; omega)
  go_enter Tryz.func49, Tryz.ntmps49
  go_wp2_with fail
  have x_r : Dx (w.alloc (.cells #[.bool false, .slice none 0 0, .int .i64 0] 55)) (w.heap.size) false none 0 0 0 := by have := Dx.new w false none 0 0 0; simpa using this
  have hb : Below w.heap.size w (w.alloc (.cells #[.bool false, .slice none 0 0, .int .i64 0] 55)) := (Below.alloc (Below.refl w.heap.size w) (by simp) (.cells #[.bool false, .slice none 0 0, .int .i64 0] 55))
  generalize w.alloc (.cells #[.bool false, .slice none 0 0, .int .i64 0] 55) = v1 at *
  replace hT := hT.keep hb
  have q_r := x_r.al
  go_wp2_with fail
  with_reducible refine (Parts_any _ b rfl hl).mono ?_
  rintro e v2 ⟨rfl, hb1⟩
  obtain ⟨x_r, hT⟩ := mv2 hb1 x_r hT
  replace hb := bthen hb hb1
  clear hb1
  replace q_r := x_r.al
  go_wp2_with fail
  with_reducible refine (Normal_any _ b rfl hl).mono ?_
  rintro e v3 ⟨rfl, hb1⟩
  obtain ⟨x_r, hT⟩ := mv2 hb1 x_r hT
  replace hb := bthen hb hb1
  clear hb1
  replace q_r := x_r.al
  rw [hn]
  go_wp2_with fail
  have hb1 := below_alloc v3 (.cells #[.int .u64 (mnN b : Nat)] 36)
  obtain ⟨x_r, hT⟩ := mv2 hb1 x_r hT
  replace hb := bthen hb hb1
  clear hb1
  replace q_r := x_r.al
  have u1 := lay1 v3 (mnN b : Nat) hlm
  clear q_r
  generalize v3.alloc (.cells #[.int .u64 (mnN b : Nat)] 36) = v4 at *
  have q_r := x_r.al
  go_wp2_with fail
  with_reducible refine (DOf_any (zr_one u1) hT 2 (by omega) (by omega)).mono ?_
  rintro e v5 ⟨A2, n2, c2, rfl, z2, hb1⟩
  obtain ⟨x_r, hT⟩ := mv2 hb1 x_r hT
  replace u1 := u1.go hb1
  replace hb := bthen hb hb1
  clear hb1
  replace q_r := x_r.al
  rw [HCE.out, HCX.out]
  rw [HCE.out] at z2
  go_wp2
  replace hT := hT.putD (b' := (ngB (od (zi (sgN b) (mnN b))))) (A' := A2) (n' := n2) (c' := c2) (e' := (nE (zi (sgN b) (mnN b)) (exN b))) x_r
  replace u1 := u1.sputD (b' := (ngB (od (zi (sgN b) (mnN b))))) (A' := A2) (n' := n2) (c' := c2) (e' := (nE (zi (sgN b) (mnN b)) (exN b))) x_r
  replace z2 := z2.putD (b' := (ngB (od (zi (sgN b) (mnN b))))) (A' := A2) (n' := n2) (c' := c2) (e' := (nE (zi (sgN b) (mnN b)) (exN b))) x_r
  replace hb := put_belowD (g := w.heap.size) hb (by omega) (.bool (ngB (od (zi (sgN b) (mnN b))))) (.slice A2 n2 c2) (.int .i64 (nE (zi (sgN b) (mnN b)) (exN b)))
  replace x_r := x_r.put (ngB (od (zi (sgN b) (mnN b)))) A2 n2 c2 (nE (zi (sgN b) (mnN b)) (exN b))
  clear q_r
  generalize ((v5.setCell ⟨w.heap.size, 0, none⟩ (.bool (ngB (od (zi (sgN b) (mnN b)))))).setCell ⟨w.heap.size, 1, none⟩ (.slice A2 n2 c2)).setCell ⟨w.heap.size, 2, none⟩ (.int .i64 (nE (zi (sgN b) (mnN b)) (exN b))) = v6 at *
  have q_r := x_r.al
  refine bodyPost_ret (v := .tuple #[.agg #[.bool (ngB (od (zi (sgN b) (mnN b)))), .slice A2 n2 c2, .int .i64 (nE (zi (sgN b) (mnN b)) (exN b))], .int .i64 0]) (by simp [results, Tryz.results49, go_sem, q_r]) rfl ?_
  exact ⟨_, _, _, rfl, z2, hb⟩
end Go.Proofs.YtdonaominffpnaaGreatDoor
namespace Go.Proofs.YtdonaominffpnaaGreatDoor
variable {A : Option Addr} {Q X e : Int} {b : Bool} {c j k n : Nat} {w : World}
set_option maxRecDepth 100000
set_option maxHeartbeats 4000000
set_option linter.unusedVariables false
open Go.RowKit
theorem of_core {t last : Int} (hX : X ≠ 0) (ht : t = e + bl X.natAbs - 1) (hl : t - 52 ≤ last) (hE : last ≤ nE X e) :
  (od X).natAbs * 2 ^ (nE X e - last).toNat < 9007199254740992 ∧ 0 < (od X).natAbs ∧ (od X).natAbs < 9007199254740992 ∧ nE X e - last ≤ 52 := by
 have h0 : 0 < (od X).natAbs := by have := od_ne hX; omega
 have h1 := congrArg Int.natAbs (tz_spec hX).1
 rw [Int.natAbs_mul, pow_cast, Int.natAbs_natCast] at h1
 have h2 := bl_shl h0 (tz X)
 rw [← h1] at h2
 have h3 := nE_ne hX e
 obtain ⟨s, hs⟩ : ∃ s : Nat, nE X e = last + s := ⟨(nE X e - last).toNat, by omega⟩
 rw [hs, show (last + (s : Int) - last).toNat = s by omega]
 have h4 := bl_shl h0 s
 have h5 := bl_pos h0
 have h6 : (od X).natAbs * 2 ^ s < 2 ^ 53 := bl_lt (by omega)
 have h7 : (od X).natAbs ≤ (od X).natAbs * 2 ^ s := Nat.le_mul_of_pos_right _ (Nat.two_pow_pos s)
 exact ⟨h6, h0, by omega, by omega⟩
theorem Zn.cell0 {bb oo : Nat} (h : Zn w (some ⟨bb, oo, none⟩) n c Q k) (h0 : 0 < Q.natAbs) (h1 : Q.natAbs < 9007199254740992) : w.cell? ⟨bb, oo, none⟩ = some (.int .u64 (Q.natAbs : Int)) := by
 have hd := dg_small1 h0 h1
 have hr := h.1
 rw [hd] at hr
 have hn : 0 < n := by have := hr.len; simp at this; omega
 obtain ⟨b2, o2, he, _, hc⟩ := hr.at_ hn
 injection he with he
 injection he with e1 e2
 subst e1 e2
 exact hc 0 (by simp)
theorem Zn.one (h : Zn w A n c Q k) (h0 : 0 < Q.natAbs) (h1 : Q.natAbs < 9007199254740992) : n = 1 ∧ (∃ bb oo, A = some ⟨bb, oo, none⟩) ∧ 1 ≤ c := by
 have hd := dg_small1 h0 h1
 have hr := h.1
 rw [hd] at hr
 have hn : n = 1 := by have := hr.len; simp at this; omega
 obtain ⟨b2, o2, he, _, hc⟩ := hr.at_ (by omega)
 have := hr.cap
 exact ⟨hn, ⟨b2, o2, he⟩, by omega⟩
theorem ngB_od (X : Int) : ngB (od X) = ngB X := by
 have h := sgn_od X
 unfold ngB
 have a := sgnI_lt0 (X := od X)
 have b := sgnI_lt0 (X := X)
 rw [h] at a
 exact decide_eq_decide.2 (a.symm.trans b)
theorem Of_zero (h : Zr w b A n c X j) (hj : j ≤ 1000) (hX : cM X e = 0) :
  Calls Tryz.prog 27 #[.agg #[.bool b, .slice A n c, .int .i64 e]] w fun en w' => en = .returned (.tuple #[.int .u64 0, .int .i64 0]) ∧ Below w.heap.size w w' := by
 have hg : lgI (cM X e) (cE e) = 0 ∧ lgB (cM X e) = false := ⟨by unfold lgI; rw [if_pos hX], by unfold lgB; simp [hX]⟩
 have HG := Lib.hid hg; clear hg hX
 go_enter Tryz.func27, Tryz.ntmps27
 go_wp2_with fail
 have x_a : Dx (w.alloc (.cells #[.bool b, .slice A n c, .int .i64 e] 55)) (w.heap.size) b A n c e := by have := Dx.new w b A n c e; simpa using this
 have hb : Below w.heap.size w (w.alloc (.cells #[.bool b, .slice A n c, .int .i64 e] 55)) := (Below.alloc (Below.refl w.heap.size w) (by simp) (.cells #[.bool b, .slice A n c, .int .i64 e] 55))
 generalize w.alloc (.cells #[.bool b, .slice A n c, .int .i64 e] 55) = v1 at *
 replace h := h.keep hb
 have q_a := x_a.al
 go_wp2_with fail
 with_reducible refine (DLog_any h (by omega)).mono ?_
 rintro e v2 ⟨rfl, hb1⟩
 obtain ⟨x_a, h⟩ := mv2 hb1 x_a h
 replace hb := bthen hb hb1
 clear hb1
 replace q_a := x_a.al
 rw [HG.out.1, HG.out.2]
 go_wp2
 go_ret2
 exact ⟨rfl, hb⟩
theorem Of_at (h : Zr w b A n c X j) (hT : Tab w) (hj : j ≤ 1000) (he : In e) (hX : X ≠ 0) (t last : Int) (ht : t = e + bl X.natAbs - 1) (h1 : t ≤ 1023) (hl : last = max (t - 52) (-1074)) (hE : last ≤ nE X e) (N : Nat) (hN : (od X).natAbs * 2 ^ (nE X e - last).toNat = N) :
  Calls Tryz.prog 27 #[.agg #[.bool b, .slice A n c, .int .i64 e]] w fun en w' => en = .returned (.tuple #[.int .u64 (((if ngB X then 9223372036854775808 else 0) + ((last + 1074).toNat * 4503599627370496 + N) : Nat) : Int), .int .i64 0]) ∧ Below w.heap.size w w' := by
 obtain ⟨k1, k2, k3, k4⟩ := of_core hX ht (by omega) hE
 rw [hN] at k1
 have hne := nE_ne hX e
 obtain ⟨cm, ce⟩ := c_yes (X := X) he
 have hg : lgI (cM X e) (cE e) = t ∧ lgB (cM X e) = true := ⟨by rw [cm, ce, lg_of hX, ht], by rw [cm]; unfold lgB; simp [hX]⟩
 have HG := Lib.hid hg; clear hg
 have HC := Lib.hid (And.intro cm ce); clear cm ce
 have hng := ngB_od X
 have hon := od_ne hX
 have hbp := bl_pos (N := X.natAbs) (by omega)
 unfold In at he
 obtain ⟨E, hEE⟩ : ∃ E, nE X e = E := ⟨_, rfl⟩
 obtain ⟨Q, hQ⟩ : ∃ Q, od X = Q := ⟨_, rfl⟩
 obtain ⟨s, hs⟩ : ∃ s : Nat, E = last + s := ⟨(E - last).toNat, by omega⟩
 rw [hEE] at hN k4 hE
 rw [hQ] at hN k2 k3 hng hon
 rw [hs, show (last + (s : Int) - last).toNat = s by omega] at hN
 have HN := Lib.hid hN; have HEQ := Lib.hid (And.intro hEE hQ); clear hN hEE hQ hne
 have w1 : IntKind.i64.wrap (t - 52) = t - 52 := wrap_in (by omega) (by omega)
 have t1 : ¬ 1023 < t := by omega
 have t2 : ¬ E < last := by omega
 have hs52 : s ≤ 52 := by omega
 have w3 : IntKind.u64.wrap ((Q.natAbs : Int) * 2 ^ s) = (N : Int) := by rw [pow_cast, ← Int.natCast_mul, HN.out, wrap_u64]; omega
 have HB := Lib.hid hbp; have HX := Lib.hid hX; have HT1 := Lib.hid ht; clear hX ht hbp
 obtain ⟨sg, hsg⟩ : ∃ sg, ngB X = sg := ⟨_, rfl⟩
 rw [hsg] at hng ⊢
 have HNG := Lib.hid hng; clear hng hsg
 rcases Int.lt_or_le (t - 52) (-1074) with hm | hm
 ·have hlast : last = -1074 := by omega
  have w2 : IntKind.i64.wrap (E - last) = s := by rw [wrap_in (by omega) (by omega)]; omega
  have HS := Lib.hid hs; clear hl hs
  subst hlast
  have w2b : IntKind.i64.wrap (E + 1074) = s := by rw [← w2]; rfl
  obtain ⟨J, hJ⟩ : ∃ J : Nat, (-1074 + 1074).toNat * 4503599627370496 + N = J := ⟨_, rfl⟩
  have hJb : J < 9223372036854775808 := by omega
  have ho := or_sign J hJb
  have HJ := Lib.hid hJ; clear hJ
  cases sg
  ·skip
   go_enter Tryz.func27, Tryz.ntmps27
   go_wp2_with fail
   have x_a : Dx (w.alloc (.cells #[.bool b, .slice A n c, .int .i64 e] 55)) (w.heap.size) b A n c e := by have := Dx.new w b A n c e; simpa using this
   have hb : Below w.heap.size w (w.alloc (.cells #[.bool b, .slice A n c, .int .i64 e] 55)) := (Below.alloc (Below.refl w.heap.size w) (by simp) (.cells #[.bool b, .slice A n c, .int .i64 e] 55))
   generalize w.alloc (.cells #[.bool b, .slice A n c, .int .i64 e] 55) = v1 at *
   obtain ⟨h, hT⟩ := mv2 hb h hT
   have q_a := x_a.al
   go_wp2_with fail
   with_reducible refine (DLog_any h (by omega)).mono ?_
   rintro e v2 ⟨rfl, hb1⟩
   obtain ⟨x_a, h, hT⟩ := mv3 hb1 x_a h hT
   replace hb := bthen hb hb1
   clear hb1
   replace q_a := x_a.al
   rw [HG.out.1, HG.out.2]
   go_wp2_with fail
   with_reducible refine (DNorm_any h hT (j + 1) (by omega) (by omega)).mono ?_
   rintro e v3 ⟨A2, n2, c2, rfl, z2, hb1⟩
   obtain ⟨x_a, h, hT⟩ := mv3 hb1 x_a h hT
   replace hb := bthen hb hb1
   clear hb1
   replace q_a := x_a.al
   rw [HC.out.1, HEQ.out.2] at z2
   rw [HC.out.1, HC.out.2, HEQ.out.1, HEQ.out.2, HNG.out]
   clear h
   go_wp2_with fail
   replace hT := hT.putD (b' := false) (A' := A2) (n' := n2) (c' := c2) (e' := E) x_a
   replace z2 := z2.putD (b' := false) (A' := A2) (n' := n2) (c' := c2) (e' := E) x_a
   replace hb := put_belowD (g := w.heap.size) hb (by omega) (.bool false) (.slice A2 n2 c2) (.int .i64 E)
   replace x_a := x_a.put false A2 n2 c2 E
   clear q_a
   generalize ((v3.setCell ⟨w.heap.size, 0, none⟩ (.bool false)).setCell ⟨w.heap.size, 1, none⟩ (.slice A2 n2 c2)).setCell ⟨w.heap.size, 2, none⟩ (.int .i64 E) = v4 at *
   have q_a := x_a.al
   obtain ⟨rfl, ⟨bb, oo, rfl⟩, hc2⟩ := z2.one k2 k3
   have hq0 := z2.cell0 k2 k3
   go_region_held3 (fun w' => w'.cell? ⟨w.heap.size, 0, none⟩ = some (.bool false) ∧ w'.cell? ⟨w.heap.size, 1, none⟩ = some (.slice (some ⟨bb, oo, none⟩) 1 c2) ∧ w'.cell? ⟨w.heap.size, 2, none⟩ = some (.int .i64 E) ∧ w'.cell? ⟨bb, oo, none⟩ = some (.int .u64 (Q.natAbs : Int)))
    (first | (with_reducible exact ⟨x_a.c0, x_a.c1, x_a.c2, z2.cell0 k2 k3⟩) | (with_reducible exact ⟨(x_a.aside (by omega)).c0, (x_a.aside (by omega)).c1, (x_a.aside (by omega)).c2, z2.cell0 k2 k3⟩) | (with_reducible exact ⟨((x_a.aside (by omega)).aside (by omega)).c0, ((x_a.aside (by omega)).aside (by omega)).c1, ((x_a.aside (by omega)).aside (by omega)).c2, z2.cell0 k2 k3⟩) | (with_reducible exact ⟨(x_a.asideD (by omega)).c0, (x_a.asideD (by omega)).c1, (x_a.asideD (by omega)).c2, z2.cell0 k2 k3⟩) | (with_reducible exact ⟨((x_a.asideD (by omega)).asideD (by omega)).c0, ((x_a.asideD (by omega)).asideD (by omega)).c1, ((x_a.asideD (by omega)).asideD (by omega)).c2, z2.cell0 k2 k3⟩) | go_keep)
    (first | (go_at_call 67; (with_reducible refine (join_at (N : Int) (-1074) N J rfl k1 (by omega) HJ.out).mono ?_); rintro e v5 ⟨rfl, hb1⟩; replace hb1 := undrew hb1; obtain ⟨x_a, hT, z2⟩ := mv3 hb1 x_a hT z2; replace hb := bthen hb hb1; clear hb1; replace q_a := x_a.al; replace hq0 := z2.cell0 k2 k3))
   go_wp2
   go_ret2
   exact ⟨tup_ui (by have := HJ.out; omega) rfl, hb⟩
  ·skip
   go_enter Tryz.func27, Tryz.ntmps27
   go_wp2_with fail
   have x_a : Dx (w.alloc (.cells #[.bool b, .slice A n c, .int .i64 e] 55)) (w.heap.size) b A n c e := by have := Dx.new w b A n c e; simpa using this
   have hb : Below w.heap.size w (w.alloc (.cells #[.bool b, .slice A n c, .int .i64 e] 55)) := (Below.alloc (Below.refl w.heap.size w) (by simp) (.cells #[.bool b, .slice A n c, .int .i64 e] 55))
   generalize w.alloc (.cells #[.bool b, .slice A n c, .int .i64 e] 55) = v1 at *
   obtain ⟨h, hT⟩ := mv2 hb h hT
   have q_a := x_a.al
   go_wp2_with fail
   with_reducible refine (DLog_any h (by omega)).mono ?_
   rintro e v2 ⟨rfl, hb1⟩
   obtain ⟨x_a, h, hT⟩ := mv3 hb1 x_a h hT
   replace hb := bthen hb hb1
   clear hb1
   replace q_a := x_a.al
   rw [HG.out.1, HG.out.2]
   go_wp2_with fail
   with_reducible refine (DNorm_any h hT (j + 1) (by omega) (by omega)).mono ?_
   rintro e v3 ⟨A2, n2, c2, rfl, z2, hb1⟩
   obtain ⟨x_a, h, hT⟩ := mv3 hb1 x_a h hT
   replace hb := bthen hb hb1
   clear hb1
   replace q_a := x_a.al
   rw [HC.out.1, HEQ.out.2] at z2
   rw [HC.out.1, HC.out.2, HEQ.out.1, HEQ.out.2, HNG.out]
   clear h
   go_wp2_with fail
   replace hT := hT.putD (b' := true) (A' := A2) (n' := n2) (c' := c2) (e' := E) x_a
   replace z2 := z2.putD (b' := true) (A' := A2) (n' := n2) (c' := c2) (e' := E) x_a
   replace hb := put_belowD (g := w.heap.size) hb (by omega) (.bool true) (.slice A2 n2 c2) (.int .i64 E)
   replace x_a := x_a.put true A2 n2 c2 E
   clear q_a
   generalize ((v3.setCell ⟨w.heap.size, 0, none⟩ (.bool true)).setCell ⟨w.heap.size, 1, none⟩ (.slice A2 n2 c2)).setCell ⟨w.heap.size, 2, none⟩ (.int .i64 E) = v4 at *
   have q_a := x_a.al
   obtain ⟨rfl, ⟨bb, oo, rfl⟩, hc2⟩ := z2.one k2 k3
   have hq0 := z2.cell0 k2 k3
   go_region_held3 (fun w' => w'.cell? ⟨w.heap.size, 0, none⟩ = some (.bool true) ∧ w'.cell? ⟨w.heap.size, 1, none⟩ = some (.slice (some ⟨bb, oo, none⟩) 1 c2) ∧ w'.cell? ⟨w.heap.size, 2, none⟩ = some (.int .i64 E) ∧ w'.cell? ⟨bb, oo, none⟩ = some (.int .u64 (Q.natAbs : Int)))
    (first | (with_reducible exact ⟨x_a.c0, x_a.c1, x_a.c2, z2.cell0 k2 k3⟩) | (with_reducible exact ⟨(x_a.aside (by omega)).c0, (x_a.aside (by omega)).c1, (x_a.aside (by omega)).c2, z2.cell0 k2 k3⟩) | (with_reducible exact ⟨((x_a.aside (by omega)).aside (by omega)).c0, ((x_a.aside (by omega)).aside (by omega)).c1, ((x_a.aside (by omega)).aside (by omega)).c2, z2.cell0 k2 k3⟩) | (with_reducible exact ⟨(x_a.asideD (by omega)).c0, (x_a.asideD (by omega)).c1, (x_a.asideD (by omega)).c2, z2.cell0 k2 k3⟩) | (with_reducible exact ⟨((x_a.asideD (by omega)).asideD (by omega)).c0, ((x_a.asideD (by omega)).asideD (by omega)).c1, ((x_a.asideD (by omega)).asideD (by omega)).c2, z2.cell0 k2 k3⟩) | go_keep)
    (first | (go_at_call 67; (with_reducible refine (join_at (N : Int) (-1074) N J rfl k1 (by omega) HJ.out).mono ?_); rintro e v5 ⟨rfl, hb1⟩; replace hb1 := undrew hb1; obtain ⟨x_a, hT, z2⟩ := mv3 hb1 x_a hT z2; replace hb := bthen hb hb1; clear hb1; replace q_a := x_a.al; replace hq0 := z2.cell0 k2 k3))
   go_wp2
   go_ret2
   exact ⟨tup_ui (by have := HJ.out; omega) rfl, hb⟩
 ·have hlast : last = t - 52 := by omega
  have w2 : IntKind.i64.wrap (E - last) = s := by rw [wrap_in (by omega) (by omega)]; omega
  have HS := Lib.hid hs; clear hl hs
  subst hlast
  obtain ⟨J, hJ⟩ : ∃ J : Nat, (t - 52 + 1074).toNat * 4503599627370496 + N = J := ⟨_, rfl⟩
  have hJb : J < 9223372036854775808 := by omega
  have ho := or_sign J hJb
  have HJ := Lib.hid hJ; clear hJ
  cases sg
  ·skip
   go_enter Tryz.func27, Tryz.ntmps27
   go_wp2_with fail
   have x_a : Dx (w.alloc (.cells #[.bool b, .slice A n c, .int .i64 e] 55)) (w.heap.size) b A n c e := by have := Dx.new w b A n c e; simpa using this
   have hb : Below w.heap.size w (w.alloc (.cells #[.bool b, .slice A n c, .int .i64 e] 55)) := (Below.alloc (Below.refl w.heap.size w) (by simp) (.cells #[.bool b, .slice A n c, .int .i64 e] 55))
   generalize w.alloc (.cells #[.bool b, .slice A n c, .int .i64 e] 55) = v1 at *
   obtain ⟨h, hT⟩ := mv2 hb h hT
   have q_a := x_a.al
   go_wp2_with fail
   with_reducible refine (DLog_any h (by omega)).mono ?_
   rintro e v2 ⟨rfl, hb1⟩
   obtain ⟨x_a, h, hT⟩ := mv3 hb1 x_a h hT
   replace hb := bthen hb hb1
   clear hb1
   replace q_a := x_a.al
   rw [HG.out.1, HG.out.2]
   go_wp2_with fail
   with_reducible refine (DNorm_any h hT (j + 1) (by omega) (by omega)).mono ?_
   rintro e v3 ⟨A2, n2, c2, rfl, z2, hb1⟩
   obtain ⟨x_a, h, hT⟩ := mv3 hb1 x_a h hT
   replace hb := bthen hb hb1
   clear hb1
   replace q_a := x_a.al
   rw [HC.out.1, HEQ.out.2] at z2
   rw [HC.out.1, HC.out.2, HEQ.out.1, HEQ.out.2, HNG.out]
   clear h
   go_wp2_with fail
   replace hT := hT.putD (b' := false) (A' := A2) (n' := n2) (c' := c2) (e' := E) x_a
   replace z2 := z2.putD (b' := false) (A' := A2) (n' := n2) (c' := c2) (e' := E) x_a
   replace hb := put_belowD (g := w.heap.size) hb (by omega) (.bool false) (.slice A2 n2 c2) (.int .i64 E)
   replace x_a := x_a.put false A2 n2 c2 E
   clear q_a
   generalize ((v3.setCell ⟨w.heap.size, 0, none⟩ (.bool false)).setCell ⟨w.heap.size, 1, none⟩ (.slice A2 n2 c2)).setCell ⟨w.heap.size, 2, none⟩ (.int .i64 E) = v4 at *
   have q_a := x_a.al
   obtain ⟨rfl, ⟨bb, oo, rfl⟩, hc2⟩ := z2.one k2 k3
   have hq0 := z2.cell0 k2 k3
   go_region_held3 (fun w' => w'.cell? ⟨w.heap.size, 0, none⟩ = some (.bool false) ∧ w'.cell? ⟨w.heap.size, 1, none⟩ = some (.slice (some ⟨bb, oo, none⟩) 1 c2) ∧ w'.cell? ⟨w.heap.size, 2, none⟩ = some (.int .i64 E) ∧ w'.cell? ⟨bb, oo, none⟩ = some (.int .u64 (Q.natAbs : Int)))
    (first | (with_reducible exact ⟨x_a.c0, x_a.c1, x_a.c2, z2.cell0 k2 k3⟩) | (with_reducible exact ⟨(x_a.aside (by omega)).c0, (x_a.aside (by omega)).c1, (x_a.aside (by omega)).c2, z2.cell0 k2 k3⟩) | (with_reducible exact ⟨((x_a.aside (by omega)).aside (by omega)).c0, ((x_a.aside (by omega)).aside (by omega)).c1, ((x_a.aside (by omega)).aside (by omega)).c2, z2.cell0 k2 k3⟩) | (with_reducible exact ⟨(x_a.asideD (by omega)).c0, (x_a.asideD (by omega)).c1, (x_a.asideD (by omega)).c2, z2.cell0 k2 k3⟩) | (with_reducible exact ⟨((x_a.asideD (by omega)).asideD (by omega)).c0, ((x_a.asideD (by omega)).asideD (by omega)).c1, ((x_a.asideD (by omega)).asideD (by omega)).c2, z2.cell0 k2 k3⟩) | go_keep)
    (first | (go_at_call 67; (with_reducible refine (join_at (N : Int) (t - 52) N J rfl k1 (by omega) HJ.out).mono ?_); rintro e v5 ⟨rfl, hb1⟩; replace hb1 := undrew hb1; obtain ⟨x_a, hT, z2⟩ := mv3 hb1 x_a hT z2; replace hb := bthen hb hb1; clear hb1; replace q_a := x_a.al; replace hq0 := z2.cell0 k2 k3))
   go_wp2
   go_ret2
   exact ⟨tup_ui (by have := HJ.out; omega) rfl, hb⟩
  ·skip
   go_enter Tryz.func27, Tryz.ntmps27
   go_wp2_with fail
   have x_a : Dx (w.alloc (.cells #[.bool b, .slice A n c, .int .i64 e] 55)) (w.heap.size) b A n c e := by have := Dx.new w b A n c e; simpa using this
   have hb : Below w.heap.size w (w.alloc (.cells #[.bool b, .slice A n c, .int .i64 e] 55)) := (Below.alloc (Below.refl w.heap.size w) (by simp) (.cells #[.bool b, .slice A n c, .int .i64 e] 55))
   generalize w.alloc (.cells #[.bool b, .slice A n c, .int .i64 e] 55) = v1 at *
   obtain ⟨h, hT⟩ := mv2 hb h hT
   have q_a := x_a.al
   go_wp2_with fail
   with_reducible refine (DLog_any h (by omega)).mono ?_
   rintro e v2 ⟨rfl, hb1⟩
   obtain ⟨x_a, h, hT⟩ := mv3 hb1 x_a h hT
   replace hb := bthen hb hb1
   clear hb1
   replace q_a := x_a.al
   rw [HG.out.1, HG.out.2]
   go_wp2_with fail
   with_reducible refine (DNorm_any h hT (j + 1) (by omega) (by omega)).mono ?_
   rintro e v3 ⟨A2, n2, c2, rfl, z2, hb1⟩
   obtain ⟨x_a, h, hT⟩ := mv3 hb1 x_a h hT
   replace hb := bthen hb hb1
   clear hb1
   replace q_a := x_a.al
   rw [HC.out.1, HEQ.out.2] at z2
   rw [HC.out.1, HC.out.2, HEQ.out.1, HEQ.out.2, HNG.out]
   clear h
   go_wp2_with fail
   replace hT := hT.putD (b' := true) (A' := A2) (n' := n2) (c' := c2) (e' := E) x_a
   replace z2 := z2.putD (b' := true) (A' := A2) (n' := n2) (c' := c2) (e' := E) x_a
   replace hb := put_belowD (g := w.heap.size) hb (by omega) (.bool true) (.slice A2 n2 c2) (.int .i64 E)
   replace x_a := x_a.put true A2 n2 c2 E
   clear q_a
   generalize ((v3.setCell ⟨w.heap.size, 0, none⟩ (.bool true)).setCell ⟨w.heap.size, 1, none⟩ (.slice A2 n2 c2)).setCell ⟨w.heap.size, 2, none⟩ (.int .i64 E) = v4 at *
   have q_a := x_a.al
   obtain ⟨rfl, ⟨bb, oo, rfl⟩, hc2⟩ := z2.one k2 k3
   have hq0 := z2.cell0 k2 k3
   go_region_held3 (fun w' => w'.cell? ⟨w.heap.size, 0, none⟩ = some (.bool true) ∧ w'.cell? ⟨w.heap.size, 1, none⟩ = some (.slice (some ⟨bb, oo, none⟩) 1 c2) ∧ w'.cell? ⟨w.heap.size, 2, none⟩ = some (.int .i64 E) ∧ w'.cell? ⟨bb, oo, none⟩ = some (.int .u64 (Q.natAbs : Int)))
    (first | (with_reducible exact ⟨x_a.c0, x_a.c1, x_a.c2, z2.cell0 k2 k3⟩) | (with_reducible exact ⟨(x_a.aside (by omega)).c0, (x_a.aside (by omega)).c1, (x_a.aside (by omega)).c2, z2.cell0 k2 k3⟩) | (with_reducible exact ⟨((x_a.aside (by omega)).aside (by omega)).c0, ((x_a.aside (by omega)).aside (by omega)).c1, ((x_a.aside (by omega)).aside (by omega)).c2, z2.cell0 k2 k3⟩) | (with_reducible exact ⟨(x_a.asideD (by omega)).c0, (x_a.asideD (by omega)).c1, (x_a.asideD (by omega)).c2, z2.cell0 k2 k3⟩) | (with_reducible exact ⟨((x_a.asideD (by omega)).asideD (by omega)).c0, ((x_a.asideD (by omega)).asideD (by omega)).c1, ((x_a.asideD (by omega)).asideD (by omega)).c2, z2.cell0 k2 k3⟩) | go_keep)
    (first | (go_at_call 67; (with_reducible refine (join_at (N : Int) (t - 52) N J rfl k1 (by omega) HJ.out).mono ?_); rintro e v5 ⟨rfl, hb1⟩; replace hb1 := undrew hb1; obtain ⟨x_a, hT, z2⟩ := mv3 hb1 x_a hT z2; replace hb := bthen hb hb1; clear hb1; replace q_a := x_a.al; replace hq0 := z2.cell0 k2 k3))
   go_wp2
   go_ret2
   exact ⟨tup_ui (by have := HJ.out; omega) rfl, hb⟩
end Go.Proofs.YtdonaominffpnaaGreatDoor
namespace Go.Proofs.YtdonaominffpnaaGreatDoor
variable {e : Int}
set_option linter.unusedVariables false
def Pat (b : Nat) (X e : Int) : Prop := b < 18446744073709551616 ∧ nmN b = true ∧ fdN b ≠ 2047 ∧ od (zi (sgN b) (mnN b)) = X ∧ nE (zi (sgN b) (mnN b)) (exN b) = e
theorem pat_of {m : Nat} (s : Bool) (h0 : 4503599627370496 ≤ m) (h1 : m < 9007199254740992) (he : -1074 ≤ e ∧ e ≤ 971) {b : Nat} (hb : b = (if s then 9223372036854775808 else 0) + ((e + 1074).toNat * 4503599627370496 + m)) : Pat b (od (zi s m)) (nE (zi s m) e) := by
 obtain ⟨a, f, g, hm, hx, hn⟩ := join_is h0 h1 he (b := (e + 1074).toNat * 4503599627370496 + m) rfl
 generalize (e + 1074).toNat * 4503599627370496 + m = k at *
 have e1 : fdN b = fdN k := by unfold fdN; subst hb; split <;> omega
 have e2 : frN b = frN k := by unfold frN; subst hb; split <;> omega
 have e3 : sgN b = s := by unfold sgN; subst hb; cases s <;> simp <;> omega
 have e4 : mnN b = mnN k := by unfold mnN; rw [e1, e2]
 have e5 : exN b = exN k := by unfold exN; rw [e1]
 have e6 : nmN b = nmN k := by unfold nmN; rw [e1]
 refine ⟨by subst hb; split <;> omega, by rw [e6]; exact hn, by rw [e1]; exact g, ?_, ?_⟩
 ·rw [e3, e4, hm]
 ·rw [e3, e4, e5, hm, hx]
theorem pat_first (he : -1022 ≤ e ∧ e ≤ 1023) : Pat ((e + 1023).toNat * 4503599627370496) 1 e := by
 have k := pat_of (m := 4503599627370496) (e := e - 52) false (by omega) (by omega) (by omega) (b := (e + 1023).toNat * 4503599627370496) (by rw [if_neg (by simp)]; omega)
 have z : zi false 4503599627370496 = 1 * 2 ^ 52 := rfl
 rw [z, od_shl, nE_shl, od_one, nE_one, show e - 52 + ((52 : Nat) : Int) = e by omega] at k
 exact k
theorem zi_ng (n : Int) (k : Nat) : zi (ngB n) (n.natAbs * 2 ^ k) = n * 2 ^ k := by
 unfold zi ngB
 by_cases h : n < 0
 ·simp only [h, decide_true, if_true]
  rw [Int.natCast_mul, pow_cast, ← Int.neg_mul]; congr 1; omega
 ·simp only [h, decide_false]
  rw [if_neg (by simp), Int.natCast_mul, pow_cast]; congr 1; omega
theorem pat_whole {n : Int} (h0 : n ≠ 0) (hn : -1000 ≤ n ∧ n ≤ 1000) {t : Int} (ht : t = 0 + bl n.natAbs - 1) : (0 ≤ t ∧ t ≤ 9) ∧ t - 52 ≤ nE n 0 ∧ (od n).natAbs * 2 ^ (nE n 0 - (t - 52)).toNat = n.natAbs * 2 ^ (52 - t).toNat ∧
  Pat ((if ngB n then 9223372036854775808 else 0) + ((t - 52 + 1074).toNat * 4503599627370496 + n.natAbs * 2 ^ (52 - t).toNat)) (od n) (nE n 0) := by
 have p := bl_pos (N := n.natAbs) (by omega)
 have u : bl n.natAbs ≤ 10 := bl_le (by omega)
 have b := bl_two (N := n.natAbs) (by omega)
 have ne := nE_ne h0 0
 have ts := (tz_spec h0).1
 have e1 : (od n).natAbs * 2 ^ (nE n 0 - (t - 52)).toNat = n.natAbs * 2 ^ (52 - t).toNat := by
  have a := congrArg Int.natAbs ts
  rw [Int.natAbs_mul, pow_cast, Int.natAbs_natCast] at a
  rw [a, Nat.mul_assoc, ← Nat.pow_add]
  congr 2; omega
 refine ⟨by omega, by omega, e1, ?_⟩
 obtain ⟨k, hk⟩ : ∃ k : Nat, (52 - t).toNat = k := ⟨_, rfl⟩
 rw [hk]
 have lo : 4503599627370496 ≤ n.natAbs * 2 ^ k := by
  have a := Nat.mul_le_mul_right (2 ^ k) b.1
  rw [← Nat.pow_add, show bl n.natAbs - 1 + k = 52 by omega] at a
  exact a
 have hi : n.natAbs * 2 ^ k < 9007199254740992 := by
  have a := Nat.mul_lt_mul_of_pos_right b.2 (Nat.two_pow_pos k)
  rw [← Nat.pow_add, show bl n.natAbs + k = 53 by omega] at a
  exact a
 have q := pat_of (ngB n) lo hi (e := t - 52) (by omega) rfl
 rw [zi_ng, od_shl, nE_shl, show t - 52 + k = 0 by omega] at q
 exact q
end Go.Proofs.YtdonaominffpnaaGreatDoor
