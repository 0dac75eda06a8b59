/-
  the document's answer for bits: Parts, Normal, Binade, Value.
-/
import Derived.Test.YthbodamihiddhaaDoorBval
import Derived.Test.YthbodamihiddhaaDoorPi
namespace Go.Proofs.YthbodamihiddhaaDoor
open Go.RowKit
set_option linter.unusedVariables false

def RValPost (w : World) (b : Nat) (e : Ending) (w' : World) : Prop := ∃ A n c, e = .returned (.tuple #[.agg #[.bool (ngB (od (zi (sgN b) (mnN b)))), .slice A n c, .int .i64 (nE (zi (sgN b) (mnN b)) (exN b))], .int .i64 0]) ∧ Zn w' A n c (od (zi (sgN b) (mnN b))) 1 ∧ Below w.heap.size w w'
theorem nm_gt (n : Nat) : (decide (0 < (n : Int)) && decide ((n : Int) < 2047)) = decide (0 < n ∧ n < 2047) := by
  by_cases h0 : 0 < n <;> by_cases h1 : n < 2047 <;> simp [h0, h1] <;> omega
theorem nm_lt {b : Nat} : nmN b = decide (0 < fdN b ∧ fdN b < 2047) := by
  have := fdN_lt b
  unfold nmN
  exact decide_eq_decide.2 (by omega)

set_option maxRecDepth 100000 in
set_option maxHeartbeats 1000000 in
theorem RParts_any (x : Int) (b : Nat) (hx : x = b) (hl : b < 18446744073709551616) {w : World} :
    Calls Tryd.prog 10 #[.int .u64 x] w fun en w' => en = .returned (.tuple #[.bool (sgN b), .int .i64 (fdN b), .int .u64 (frN b)]) ∧ Below w.heap.size w w' := by
  subst hx
  have k1 := and_field b hl
  have k2 : (b : Int).tmod 4503599627370496 = (frN b : Int) := by rw [Int.tmod_eq_emod_of_nonneg (by omega)]; unfold frN; omega
  have h1 := fdN_lt b
  have hw : IntKind.i64.wrap (fdN b : Int) = fdN b := wrap_in (by omega) (by omega)
  obtain ⟨S, hS⟩ : ∃ S, (b : Int) / 9223372036854775808 = S := ⟨_, rfl⟩
  have k5 : (S == 1) = sgN b := by
    rw [← hS]; unfold sgN
    by_cases hs : 9223372036854775808 ≤ b
    · rw [show (b : Int) / 9223372036854775808 = 1 by omega]; simp [hs]
    · rw [show (b : Int) / 9223372036854775808 = 0 by omega]; simp [hs]
  go_enter Tryd.func10, Tryd.ntmps10
  go_wp2_with (simp only [k1, k2, hS])
  have hb := Below.refl w.heap.size w
  refine bodyPost_ret (v := .tuple #[.bool (sgN b), .int .i64 (fdN b), .int .u64 (frN b)]) (by simp [results, Tryd.results10, go_sem]) rfl ?_
  exact ⟨rfl, hb⟩

set_option maxRecDepth 100000 in
set_option maxHeartbeats 1000000 in
theorem RNormal_any (x : Int) (b : Nat) (hx : x = b) (hl : b < 18446744073709551616) {w : World} :
    Calls Tryd.prog 17 #[.int .u64 x] w fun en w' => en = .returned (.bool (nmN b)) ∧ Below w.heap.size w w' := by
  subst hx
  have hb := Below.refl w.heap.size w
  go_enter Tryd.func17, Tryd.ntmps17
  go_wp2_with fail
  with_reducible refine (RParts_any _ b rfl hl).mono ?_
  rintro e v1 ⟨rfl, hb1⟩
  replace hb := bthen hb hb1
  clear hb1
  go_wp2
  all_goals go_ret
  all_goals refine ⟨ret_b ?_, hb⟩
  all_goals rw [nm_lt]
  all_goals first | exact nm_gt _ | (rename_i h0; simp [h0]; omega) | (rename_i h0; simp [h0])

set_option maxRecDepth 100000 in
set_option maxHeartbeats 1000000 in
theorem RBinade_yes (x : Int) (b : Nat) (hx : x = b) (hl : b < 18446744073709551616) (hn : nmN b = true) {w : World} :
    Calls Tryd.prog 15 #[.int .u64 x] w fun en w' => en = .returned (.tuple #[.int .i64 ((fdN b : Int) - 1023), .int .i64 0]) ∧ Below w.heap.size w w' := by
  subst hx
  have hb := Below.refl w.heap.size w
  have h1 := fdN_lt b
  have w2 : IntKind.i64.wrap ((fdN b : Int) - 1023) = fdN b - 1023 := wrap_in (by omega) (by omega)
  go_enter Tryd.func15, Tryd.ntmps15
  go_wp2_with fail
  with_reducible refine (RNormal_any _ b rfl hl).mono ?_
  rintro e v1 ⟨rfl, hb1⟩
  replace hb := bthen hb hb1
  clear hb1
  rw [hn]
  go_wp2_with fail
  with_reducible refine (RParts_any _ b rfl hl).mono ?_
  rintro e v2 ⟨rfl, hb1⟩
  replace hb := bthen hb hb1
  clear hb1
  go_wp2
  go_ret2
  exact ⟨tup_ui (by omega) rfl, hb⟩

set_option maxRecDepth 100000 in
set_option maxHeartbeats 1000000 in
theorem RBinade_no (x : Int) (b : Nat) (hx : x = b) (hl : b < 18446744073709551616) (hn : nmN b = false) {w : World} :
    Calls Tryd.prog 15 #[.int .u64 x] w fun en w' => en = .returned (.tuple #[.int .i64 0, .int .i64 1]) ∧ Below w.heap.size w w' := by
  subst hx
  have hb := Below.refl w.heap.size w
  go_enter Tryd.func15, Tryd.ntmps15
  go_wp2_with fail
  with_reducible refine (RNormal_any _ b rfl hl).mono ?_
  rintro e v1 ⟨rfl, hb1⟩
  replace hb := bthen hb hb1
  clear hb1
  rw [hn]
  go_wp2
  go_ret2
  exact ⟨rfl, hb⟩

set_option maxRecDepth 100000 in
set_option maxHeartbeats 1000000 in
theorem RValue_none (x : Int) (b : Nat) (hx : x = b) (hl : b < 18446744073709551616) (hf : fdN b = 2047) {w : World} :
    Calls Tryd.prog 12 #[.int .u64 x] w fun en w' => en = .returned (.tuple #[.agg #[.bool false, .slice none 0 0, .int .i64 0], .int .i64 1]) ∧ Below w.heap.size w w' := by
  subst hx
  have hf1 : ((fdN b : Int) == 2047) = true := by simp; omega
  go_enter Tryd.func12, Tryd.ntmps12
  go_wp2_with fail
  have x_r : Dx (w.alloc (.cells #[.bool false, .slice none 0 0, .int .i64 0] 30)) (w.heap.size) false none 0 0 0 := by have := Dx.new w false none 0 0 0; simpa using this
  have hb : Below w.heap.size w (w.alloc (.cells #[.bool false, .slice none 0 0, .int .i64 0] 30)) := (Below.alloc (Below.refl w.heap.size w) (by simp) (.cells #[.bool false, .slice none 0 0, .int .i64 0] 30))
  generalize w.alloc (.cells #[.bool false, .slice none 0 0, .int .i64 0] 30) = v1 at *
  have q_r0 := x_r.c0; have q_r1 := x_r.c1; have f_r0 := x_r.fr 0; have f_r1 := x_r.fr 1; have q_r2 := x_r.c2; have f_r2 := x_r.fr 2
  go_wp2_with fail
  with_reducible refine (RParts_any _ b rfl hl).mono ?_
  rintro e v2 ⟨rfl, hb1⟩
  replace x_r := x_r.keep hb1
  replace hb := bthen hb hb1
  clear hb1
  replace q_r0 := x_r.c0; replace q_r1 := x_r.c1; replace f_r0 := x_r.fr 0; replace f_r1 := x_r.fr 1; replace q_r2 := x_r.c2; replace f_r2 := x_r.fr 2
  go_wp2
  replace hb := put_belowD (g := w.heap.size) hb (by omega) (.bool false) (.slice none 0 0) (.int .i64 0)
  replace x_r := x_r.put false none 0 0 0
  clear q_r0 q_r1 f_r0 f_r1 q_r2 f_r2
  generalize ((v2.setCell ⟨w.heap.size, 0, none⟩ (.bool false)).setCell ⟨w.heap.size, 1, none⟩ (.slice none 0 0)).setCell ⟨w.heap.size, 2, none⟩ (.int .i64 0) = v3 at *
  have q_r0 := x_r.c0; have q_r1 := x_r.c1; have f_r0 := x_r.fr 0; have f_r1 := x_r.fr 1; have q_r2 := x_r.c2; have f_r2 := x_r.fr 2
  refine bodyPost_ret (v := .tuple #[.agg #[.bool false, .slice none 0 0, .int .i64 0], .int .i64 1]) (by simp [results, Tryd.results12, go_sem, q_r0, q_r1, q_r2]) rfl ?_
  exact ⟨rfl, hb⟩

set_option maxRecDepth 100000 in
set_option maxHeartbeats 4000000 in
theorem RValue_any (x : Int) (b : Nat) (hx : x = b) (hl : b < 18446744073709551616) (hf : fdN b ≠ 2047) {w : World} :
    Calls Tryd.prog 12 #[.int .u64 x] w (RValPost w b) := by
  subst hx
  have hf1 : ((fdN b : Int) == 2047) = false := by simp; omega
  have hx1 := exN_num hf
  have hfl := fdN_lt b
  have hrl := frN_lt b
  obtain ⟨ce, cx⟩ : cM (zi (sgN b) (mnN b)) (exN b) = zi (sgN b) (mnN b) ∧ cE (exN b) = exN b := c_yes (by omega)
  have HCE := Lib.hid ce; have HCX := Lib.hid cx; clear ce cx
  have hlf : Lm ((frN b : Nat) : Int) := lm_small (by omega) (by omega)
  by_cases h0 : fdN b = 0
  · have h01 : ((fdN b : Int) == 0) = true := by simp [h0]
    have hm : mnN b = frN b := by unfold mnN; rw [if_pos h0]
    have he : exN b = -1074 := by unfold exN; rw [if_pos h0]
    rw [hm, he] at HCE
    rw [he] at HCX
    have HM := Lib.hid hm; have HE := Lib.hid he; clear hm he
    go_enter Tryd.func12, Tryd.ntmps12
    go_wp2_with fail
    have x_r : Dx (w.alloc (.cells #[.bool false, .slice none 0 0, .int .i64 0] 30)) (w.heap.size) false none 0 0 0 := by have := Dx.new w false none 0 0 0; simpa using this
    have hb : Below w.heap.size w (w.alloc (.cells #[.bool false, .slice none 0 0, .int .i64 0] 30)) := (Below.alloc (Below.refl w.heap.size w) (by simp) (.cells #[.bool false, .slice none 0 0, .int .i64 0] 30))
    generalize w.alloc (.cells #[.bool false, .slice none 0 0, .int .i64 0] 30) = v1 at *
    have q_r0 := x_r.c0; have q_r1 := x_r.c1; have f_r0 := x_r.fr 0; have f_r1 := x_r.fr 1; have q_r2 := x_r.c2; have f_r2 := x_r.fr 2
    go_wp2_with fail
    with_reducible refine (RParts_any _ b rfl hl).mono ?_
    rintro e v2 ⟨rfl, hb1⟩
    replace x_r := x_r.keep hb1
    replace hb := bthen hb hb1
    clear hb1
    replace q_r0 := x_r.c0; replace q_r1 := x_r.c1; replace f_r0 := x_r.fr 0; replace f_r1 := x_r.fr 1; replace q_r2 := x_r.c2; replace f_r2 := x_r.fr 2
    go_wp2_with fail
    have u1 := (lay1 v2 (frN b : Nat) hlf).go (below_alloc (v2.alloc (.cells #[.int .u64 (frN b : Nat)] 22)) (.cells #[.bool (sgN b), .slice (some ⟨v2.heap.size, 0, none⟩) 1 1] 28))
    have hb1 := below_alloc2 v2 (.cells #[.int .u64 (frN b : Nat)] 22) (.cells #[.bool (sgN b), .slice (some ⟨v2.heap.size, 0, none⟩) 1 1] 28)
    replace x_r := x_r.keep hb1
    replace hb := bthen hb hb1
    clear hb1
    replace q_r0 := x_r.c0; replace q_r1 := x_r.c1; replace f_r0 := x_r.fr 0; replace f_r1 := x_r.fr 1; replace q_r2 := x_r.c2; replace f_r2 := x_r.fr 2
    clear q_r0 q_r1 f_r0 f_r1 q_r2 f_r2
    generalize (v2.alloc (.cells #[.int .u64 (frN b : Nat)] 22)).alloc (.cells #[.bool (sgN b), .slice (some ⟨v2.heap.size, 0, none⟩) 1 1] 28) = v3 at *
    have q_r0 := x_r.c0; have q_r1 := x_r.c1; have f_r0 := x_r.fr 0; have f_r1 := x_r.fr 1; have q_r2 := x_r.c2; have f_r2 := x_r.fr 2
    skip
    with_reducible refine (DROf_any (zr_one u1) (by omega)).mono ?_
    rintro e v4 ⟨A2, n2, c2, rfl, z2, hb1⟩
    replace x_r := x_r.keep hb1
    replace u1 := u1.go hb1
    replace hb := bthen hb hb1
    clear hb1
    replace q_r0 := x_r.c0; replace q_r1 := x_r.c1; replace f_r0 := x_r.fr 0; replace f_r1 := x_r.fr 1; replace q_r2 := x_r.c2; replace f_r2 := x_r.fr 2
    rw [HCE.out, HCX.out]
    rw [HCE.out] at z2
    go_wp2
    replace u1 := u1.sputD (b' := (ngB (od (zi (sgN b) (frN b))))) (A' := A2) (n' := n2) (c' := c2) (e' := (nE (zi (sgN b) (frN b)) (-1074))) x_r
    replace z2 := z2.putD (b' := (ngB (od (zi (sgN b) (frN b))))) (A' := A2) (n' := n2) (c' := c2) (e' := (nE (zi (sgN b) (frN b)) (-1074))) x_r
    replace hb := put_belowD (g := w.heap.size) hb (by omega) (.bool (ngB (od (zi (sgN b) (frN b))))) (.slice A2 n2 c2) (.int .i64 (nE (zi (sgN b) (frN b)) (-1074)))
    replace x_r := x_r.put (ngB (od (zi (sgN b) (frN b)))) A2 n2 c2 (nE (zi (sgN b) (frN b)) (-1074))
    clear q_r0 q_r1 f_r0 f_r1 q_r2 f_r2
    generalize ((v4.setCell ⟨w.heap.size, 0, none⟩ (.bool (ngB (od (zi (sgN b) (frN b)))))).setCell ⟨w.heap.size, 1, none⟩ (.slice A2 n2 c2)).setCell ⟨w.heap.size, 2, none⟩ (.int .i64 (nE (zi (sgN b) (frN b)) (-1074))) = v5 at *
    have q_r0 := x_r.c0; have q_r1 := x_r.c1; have f_r0 := x_r.fr 0; have f_r1 := x_r.fr 1; have q_r2 := x_r.c2; have f_r2 := x_r.fr 2
    refine bodyPost_ret (v := .tuple #[.agg #[.bool (ngB (od (zi (sgN b) (frN b)))), .slice A2 n2 c2, .int .i64 (nE (zi (sgN b) (frN b)) (-1074))], .int .i64 0]) (by simp [results, Tryd.results12, go_sem, q_r0, q_r1, q_r2]) rfl ?_
    exact ⟨_, _, _, by rw [HM.out, HE.out], by rw [HM.out]; exact z2, hb⟩
  · have h01 : ((fdN b : Int) == 0) = false := by simpa using h0
    have hm : mnN b = frN b + 4503599627370496 := by unfold mnN; rw [if_neg h0]
    have he : exN b = (fdN b : Int) - 1075 := by unfold exN; rw [if_neg h0]
    have w1 : IntKind.u64.wrap ((frN b : Int) + 4503599627370496) = ((mnN b : Nat) : Int) := by rw [hm, wrap_u64]; omega
    have w3 : IntKind.i64.wrap ((fdN b : Int) - 1075) = exN b := by rw [he, wrap_in (by omega) (by omega)]
    have HM := Lib.hid hm; have HE := Lib.hid he; clear hm he
    go_enter Tryd.func12, Tryd.ntmps12
    go_wp2_with fail
    have x_r : Dx (w.alloc (.cells #[.bool false, .slice none 0 0, .int .i64 0] 30)) (w.heap.size) false none 0 0 0 := by have := Dx.new w false none 0 0 0; simpa using this
    have hb : Below w.heap.size w (w.alloc (.cells #[.bool false, .slice none 0 0, .int .i64 0] 30)) := (Below.alloc (Below.refl w.heap.size w) (by simp) (.cells #[.bool false, .slice none 0 0, .int .i64 0] 30))
    generalize w.alloc (.cells #[.bool false, .slice none 0 0, .int .i64 0] 30) = v1 at *
    have q_r0 := x_r.c0; have q_r1 := x_r.c1; have f_r0 := x_r.fr 0; have f_r1 := x_r.fr 1; have q_r2 := x_r.c2; have f_r2 := x_r.fr 2
    go_wp2_with fail
    with_reducible refine (RParts_any _ b rfl hl).mono ?_
    rintro e v2 ⟨rfl, hb1⟩
    replace x_r := x_r.keep hb1
    replace hb := bthen hb hb1
    clear hb1
    replace q_r0 := x_r.c0; replace q_r1 := x_r.c1; replace f_r0 := x_r.fr 0; replace f_r1 := x_r.fr 1; replace q_r2 := x_r.c2; replace f_r2 := x_r.fr 2
    go_wp2_with fail
    have hlm : Lm ((mnN b : Nat) : Int) := lm_small (by omega) (by have := mnN_lt b; omega)
    have u1 := (lay1 v2 (mnN b : Nat) hlm).go (below_alloc (v2.alloc (.cells #[.int .u64 (mnN b : Nat)] 22)) (.cells #[.bool (sgN b), .slice (some ⟨v2.heap.size, 0, none⟩) 1 1] 28))
    have hb1 := below_alloc2 v2 (.cells #[.int .u64 (mnN b : Nat)] 22) (.cells #[.bool (sgN b), .slice (some ⟨v2.heap.size, 0, none⟩) 1 1] 28)
    replace x_r := x_r.keep hb1
    replace hb := bthen hb hb1
    clear hb1
    replace q_r0 := x_r.c0; replace q_r1 := x_r.c1; replace f_r0 := x_r.fr 0; replace f_r1 := x_r.fr 1; replace q_r2 := x_r.c2; replace f_r2 := x_r.fr 2
    clear q_r0 q_r1 f_r0 f_r1 q_r2 f_r2
    generalize (v2.alloc (.cells #[.int .u64 (mnN b : Nat)] 22)).alloc (.cells #[.bool (sgN b), .slice (some ⟨v2.heap.size, 0, none⟩) 1 1] 28) = v3 at *
    have q_r0 := x_r.c0; have q_r1 := x_r.c1; have f_r0 := x_r.fr 0; have f_r1 := x_r.fr 1; have q_r2 := x_r.c2; have f_r2 := x_r.fr 2
    skip
    with_reducible refine (DROf_any (zr_one u1) (by omega)).mono ?_
    rintro e v4 ⟨A2, n2, c2, rfl, z2, hb1⟩
    replace x_r := x_r.keep hb1
    replace u1 := u1.go hb1
    replace hb := bthen hb hb1
    clear hb1
    replace q_r0 := x_r.c0; replace q_r1 := x_r.c1; replace f_r0 := x_r.fr 0; replace f_r1 := x_r.fr 1; replace q_r2 := x_r.c2; replace f_r2 := x_r.fr 2
    rw [HCE.out, HCX.out]
    rw [HCE.out] at z2
    go_wp2
    replace u1 := u1.sputD (b' := (ngB (od (zi (sgN b) (mnN b))))) (A' := A2) (n' := n2) (c' := c2) (e' := (nE (zi (sgN b) (mnN b)) (exN b))) x_r
    replace z2 := z2.putD (b' := (ngB (od (zi (sgN b) (mnN b))))) (A' := A2) (n' := n2) (c' := c2) (e' := (nE (zi (sgN b) (mnN b)) (exN b))) x_r
    replace hb := put_belowD (g := w.heap.size) hb (by omega) (.bool (ngB (od (zi (sgN b) (mnN b))))) (.slice A2 n2 c2) (.int .i64 (nE (zi (sgN b) (mnN b)) (exN b)))
    replace x_r := x_r.put (ngB (od (zi (sgN b) (mnN b)))) A2 n2 c2 (nE (zi (sgN b) (mnN b)) (exN b))
    clear q_r0 q_r1 f_r0 f_r1 q_r2 f_r2
    generalize ((v4.setCell ⟨w.heap.size, 0, none⟩ (.bool (ngB (od (zi (sgN b) (mnN b)))))).setCell ⟨w.heap.size, 1, none⟩ (.slice A2 n2 c2)).setCell ⟨w.heap.size, 2, none⟩ (.int .i64 (nE (zi (sgN b) (mnN b)) (exN b))) = v5 at *
    have q_r0 := x_r.c0; have q_r1 := x_r.c1; have f_r0 := x_r.fr 0; have f_r1 := x_r.fr 1; have q_r2 := x_r.c2; have f_r2 := x_r.fr 2
    refine bodyPost_ret (v := .tuple #[.agg #[.bool (ngB (od (zi (sgN b) (mnN b)))), .slice A2 n2 c2, .int .i64 (nE (zi (sgN b) (mnN b)) (exN b))], .int .i64 0]) (by simp [results, Tryd.results12, go_sem, q_r0, q_r1, q_r2]) rfl ?_
    exact ⟨_, _, _, rfl, z2, hb⟩

end Go.Proofs.YthbodamihiddhaaDoor
