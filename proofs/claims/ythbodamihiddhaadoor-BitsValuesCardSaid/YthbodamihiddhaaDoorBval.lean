/-
  bits: Binade, First, Value.
-/
import Derived.Test.YthbodamihiddhaaDoorBfun
import Derived.Test.YthbodamihiddhaaDoorPe
namespace Go.Proofs.YthbodamihiddhaaDoor
open Go.RowKit
set_option linter.unusedVariables false

theorem tup_ui {a b c d : Int} {k l : IntKind} (h : a = b) (h2 : c = d) : Ending.returned (.tuple #[.int k a, .int l c]) = .returned (.tuple #[.int k b, .int l d]) := by rw [h, h2]
/-- A block of one limb, as an integer. -/
theorem zr_one {w : World} {A : Option Addr} {M : Nat} {s : Bool} (h : Rd w w.heap.size A 1 1 [(M : Int)]) : Zr w s A 1 1 (zi s M) 1 :=
  ⟨_, h, by rw [vl_cons]; simp [vl], Nat.le_refl _⟩
theorem dg_small1 {N : Nat} (h0 : 0 < N) (h : N < 9007199254740992) : dg Wd N = [(N : Int)] := dg_lit1 (by rw [Wd_eq]; omega) h0
def ValPost (w : World) (b : Nat) (e : Ending) (w' : World) : Prop := ∃ A n c, e = .returned (.tuple #[.agg #[.bool (ngB (od (zi (sgN b) (mnN b)))), .slice A n c, .int .i64 (nE (zi (sgN b) (mnN b)) (exN b))], .int .i64 0]) ∧ Zn w' A n c (od (zi (sgN b) (mnN b))) 2 ∧ Below w.heap.size w w'

set_option maxRecDepth 100000 in
set_option maxHeartbeats 1000000 in
theorem Binade_yes (x : Int) (b : Nat) (hx : x = b) (hl : b < 18446744073709551616) (hn : nmN b = true) {w : World} :
    Calls Tryd.prog 14 #[.int .u64 x] w fun en w' => en = .returned (.tuple #[.int .i64 ((fdN b : Int) - 1023), .int .i64 0]) ∧ Below w.heap.size w w' := by
  subst hx
  have hb := Below.refl w.heap.size w
  have h1 := fdN_lt b
  go_enter Tryd.func14, Tryd.ntmps14
  go_wp2_with fail
  with_reducible refine (Normal_any _ b rfl hl).mono ?_
  rintro e v1 ⟨rfl, hb1⟩
  replace hb := bthen hb hb1
  clear hb1
  rw [hn]
  go_wp2_with fail
  with_reducible refine (Parts_any _ b rfl hl).mono ?_
  rintro e v2 ⟨rfl, hb1⟩
  replace hb := bthen hb hb1
  clear hb1
  have w1 : IntKind.i64.wrap (-1022 + (fdN b : Int)) = -1022 + fdN b := wrap_in (by omega) (by omega)
  have w2 : IntKind.i64.wrap (-1022 + (fdN b : Int) - 1) = -1022 + fdN b - 1 := wrap_in (by omega) (by omega)
  go_wp2
  go_ret2
  exact ⟨tup_ui (by omega) rfl, hb⟩

set_option maxRecDepth 100000 in
set_option maxHeartbeats 1000000 in
theorem Binade_no (x : Int) (b : Nat) (hx : x = b) (hl : b < 18446744073709551616) (hn : nmN b = false) {w : World} :
    Calls Tryd.prog 14 #[.int .u64 x] w fun en w' => en = .returned (.tuple #[.int .i64 0, .int .i64 1]) ∧ Below w.heap.size w w' := by
  subst hx
  have hb := Below.refl w.heap.size w
  go_enter Tryd.func14, Tryd.ntmps14
  go_wp2_with fail
  with_reducible refine (Normal_any _ b rfl hl).mono ?_
  rintro e v1 ⟨rfl, hb1⟩
  replace hb := bthen hb hb1
  clear hb1
  rw [hn]
  go_wp2
  go_ret2
  exact ⟨rfl, hb⟩

set_option maxRecDepth 100000 in
set_option maxHeartbeats 1000000 in
theorem First_yes (e : Int) (he : -1022 ≤ e ∧ e ≤ 1023) {w : World} :
    Calls Tryd.prog 25 #[.int .i64 e] w fun en w' => en = .returned (.tuple #[.int .u64 (((e + 1023).toNat * 4503599627370496 : Nat) : Int), .int .i64 0]) ∧ Below w.heap.size w w' := by
  have hb := Below.refl w.heap.size w
  have w1 : IntKind.i64.wrap (e - 52) = e - 52 := wrap_in (by omega) (by omega)
  have h1 : ¬ e < -1022 := by omega
  have h2 : ¬ 1023 < e := by omega
  go_enter Tryd.func25, Tryd.ntmps25
  go_wp2_with fail
  with_reducible refine (join_any 4503599627370496 (e - 52) 4503599627370496 rfl (by omega) (by omega)).mono ?_
  rintro e v1 ⟨rfl, hb1⟩
  replace hb := bthen hb hb1
  clear hb1
  go_wp2
  go_ret2
  exact ⟨tup_ui (by omega) rfl, hb⟩

set_option maxRecDepth 100000 in
set_option maxHeartbeats 1000000 in
theorem First_no (e : Int) (he : ¬ (-1022 ≤ e ∧ e ≤ 1023)) {w : World} :
    Calls Tryd.prog 25 #[.int .i64 e] w fun en w' => en = .returned (.tuple #[.int .u64 0, .int .i64 1]) ∧ Below w.heap.size w w' := by
  have hb := Below.refl w.heap.size w
  rcases (show e < -1022 ∨ (¬ e < -1022 ∧ 1023 < e) by omega) with h1 | ⟨h1, h2⟩
  · skip
    go_enter Tryd.func25, Tryd.ntmps25
    go_wp2
    go_ret2
    exact ⟨rfl, hb⟩
  · skip
    go_enter Tryd.func25, Tryd.ntmps25
    go_wp2
    go_ret2
    exact ⟨rfl, hb⟩

set_option maxRecDepth 100000 in
set_option maxHeartbeats 1000000 in
theorem Value_none (x : Int) (b : Nat) (hx : x = b) (hl : b < 18446744073709551616) (hf : fdN b = 2047) {w : World} :
    Calls Tryd.prog 11 #[.int .u64 x] w fun en w' => en = .returned (.tuple #[.agg #[.bool false, .slice none 0 0, .int .i64 0], .int .i64 1]) ∧ Below w.heap.size w w' := by
  subst hx
  have hf1 : ((fdN b : Int) == 2047) = true := by simp; omega
  go_enter Tryd.func11, Tryd.ntmps11
  go_wp2_with fail
  have x_r : Dx (w.alloc (.cells #[.bool false, .slice none 0 0, .int .i64 0] 30)) (w.heap.size) false none 0 0 0 := by have := Dx.new w false none 0 0 0; simpa using this
  have hb : Below w.heap.size w (w.alloc (.cells #[.bool false, .slice none 0 0, .int .i64 0] 30)) := (Below.alloc (Below.refl w.heap.size w) (by simp) (.cells #[.bool false, .slice none 0 0, .int .i64 0] 30))
  generalize w.alloc (.cells #[.bool false, .slice none 0 0, .int .i64 0] 30) = v1 at *
  have q_r0 := x_r.c0; have q_r1 := x_r.c1; have f_r0 := x_r.fr 0; have f_r1 := x_r.fr 1; have q_r2 := x_r.c2; have f_r2 := x_r.fr 2
  go_wp2_with fail
  with_reducible refine (Parts_any _ b rfl hl).mono ?_
  rintro e v2 ⟨rfl, hb1⟩
  replace x_r := x_r.keep hb1
  replace hb := bthen hb hb1
  clear hb1
  replace q_r0 := x_r.c0; replace q_r1 := x_r.c1; replace f_r0 := x_r.fr 0; replace f_r1 := x_r.fr 1; replace q_r2 := x_r.c2; replace f_r2 := x_r.fr 2
  go_wp2
  replace hb := put_belowD (g := w.heap.size) hb (by omega) (.bool false) (.slice none 0 0) (.int .i64 0)
  replace x_r := x_r.put false none 0 0 0
  clear q_r0 q_r1 f_r0 f_r1 q_r2 f_r2
  generalize ((v2.setCell ⟨w.heap.size, 0, none⟩ (.bool false)).setCell ⟨w.heap.size, 1, none⟩ (.slice none 0 0)).setCell ⟨w.heap.size, 2, none⟩ (.int .i64 0) = v3 at *
  have q_r0 := x_r.c0; have q_r1 := x_r.c1; have f_r0 := x_r.fr 0; have f_r1 := x_r.fr 1; have q_r2 := x_r.c2; have f_r2 := x_r.fr 2
  refine bodyPost_ret (v := .tuple #[.agg #[.bool false, .slice none 0 0, .int .i64 0], .int .i64 1]) (by simp [results, Tryd.results11, go_sem, q_r0, q_r1, q_r2]) rfl ?_
  exact ⟨rfl, hb⟩

set_option maxRecDepth 100000 in
set_option maxHeartbeats 4000000 in
theorem Value_any (x : Int) (b : Nat) (hx : x = b) (hl : b < 18446744073709551616) {w : World} (hT : Tab w) (hf : fdN b ≠ 2047) :
    Calls Tryd.prog 11 #[.int .u64 x] w (ValPost w b) := by
  subst hx
  have hf1 : ((fdN b : Int) == 2047) = false := by simp; omega
  have hx1 := exN_num hf
  have hfl := fdN_lt b
  have hrl := frN_lt b
  obtain ⟨ce, cx⟩ : cM (zi (sgN b) (mnN b)) (exN b) = zi (sgN b) (mnN b) ∧ cE (exN b) = exN b := c_yes (by omega)
  have HCE := Lib.hid ce; have HCX := Lib.hid cx; clear ce cx
  by_cases h0 : fdN b = 0
  · have hn : nmN b = false := by unfold nmN; simp [h0]
    have hm : mnN b = frN b := by unfold mnN; rw [if_pos h0]
    have he : exN b = -1074 := by unfold exN; rw [if_pos h0]
    rw [hm, he] at HCE
    rw [he] at HCX
    have HM := Lib.hid hm; have HE := Lib.hid he; clear hm he
    have hlm : Lm ((frN b : Nat) : Int) := lm_small (by omega) (by have := frN_lt b; omega)
    go_enter Tryd.func11, Tryd.ntmps11
    go_wp2_with fail
    have x_r : Dx (w.alloc (.cells #[.bool false, .slice none 0 0, .int .i64 0] 30)) (w.heap.size) false none 0 0 0 := by have := Dx.new w false none 0 0 0; simpa using this
    have hb : Below w.heap.size w (w.alloc (.cells #[.bool false, .slice none 0 0, .int .i64 0] 30)) := (Below.alloc (Below.refl w.heap.size w) (by simp) (.cells #[.bool false, .slice none 0 0, .int .i64 0] 30))
    generalize w.alloc (.cells #[.bool false, .slice none 0 0, .int .i64 0] 30) = v1 at *
    replace hT := hT.keep hb
    have q_r0 := x_r.c0; have q_r1 := x_r.c1; have f_r0 := x_r.fr 0; have f_r1 := x_r.fr 1; have q_r2 := x_r.c2; have f_r2 := x_r.fr 2
    go_wp2_with fail
    with_reducible refine (Parts_any _ b rfl hl).mono ?_
    rintro e v2 ⟨rfl, hb1⟩
    replace x_r := x_r.keep hb1
    replace hT := hT.keep hb1
    replace hb := bthen hb hb1
    clear hb1
    replace q_r0 := x_r.c0; replace q_r1 := x_r.c1; replace f_r0 := x_r.fr 0; replace f_r1 := x_r.fr 1; replace q_r2 := x_r.c2; replace f_r2 := x_r.fr 2
    go_wp2_with fail
    with_reducible refine (Normal_any _ b rfl hl).mono ?_
    rintro e v3 ⟨rfl, hb1⟩
    replace x_r := x_r.keep hb1
    replace hT := hT.keep hb1
    replace hb := bthen hb hb1
    clear hb1
    replace q_r0 := x_r.c0; replace q_r1 := x_r.c1; replace f_r0 := x_r.fr 0; replace f_r1 := x_r.fr 1; replace q_r2 := x_r.c2; replace f_r2 := x_r.fr 2
    rw [hn]
    go_wp2_with fail
    have hb1 := below_alloc v3 (.cells #[.int .u64 (frN b : Nat)] 22)
    replace x_r := x_r.keep hb1
    replace hT := hT.keep hb1
    replace hb := bthen hb hb1
    clear hb1
    replace q_r0 := x_r.c0; replace q_r1 := x_r.c1; replace f_r0 := x_r.fr 0; replace f_r1 := x_r.fr 1; replace q_r2 := x_r.c2; replace f_r2 := x_r.fr 2
    have u1 := lay1 v3 (frN b : Nat) hlm
    clear q_r0 q_r1 f_r0 f_r1
    generalize v3.alloc (.cells #[.int .u64 (frN b : Nat)] 22) = v4 at *
    have q_r0 := x_r.c0; have q_r1 := x_r.c1; have f_r0 := x_r.fr 0; have f_r1 := x_r.fr 1; have q_r2 := x_r.c2; have f_r2 := x_r.fr 2
    go_wp2_with fail
    with_reducible refine (DOf_any (zr_one u1) hT 2 (by omega) (by omega)).mono ?_
    rintro e v5 ⟨A2, n2, c2, rfl, z2, hb1⟩
    replace x_r := x_r.keep hb1
    replace hT := hT.keep hb1
    replace u1 := u1.go hb1
    replace hb := bthen hb hb1
    clear hb1
    replace q_r0 := x_r.c0; replace q_r1 := x_r.c1; replace f_r0 := x_r.fr 0; replace f_r1 := x_r.fr 1; replace q_r2 := x_r.c2; replace f_r2 := x_r.fr 2
    rw [HCE.out, HCX.out]
    rw [HCE.out] at z2
    go_wp2
    replace hT := hT.putD (b' := (ngB (od (zi (sgN b) (frN b))))) (A' := A2) (n' := n2) (c' := c2) (e' := (nE (zi (sgN b) (frN b)) (-1074))) x_r
    replace u1 := u1.sputD (b' := (ngB (od (zi (sgN b) (frN b))))) (A' := A2) (n' := n2) (c' := c2) (e' := (nE (zi (sgN b) (frN b)) (-1074))) x_r
    replace z2 := z2.putD (b' := (ngB (od (zi (sgN b) (frN b))))) (A' := A2) (n' := n2) (c' := c2) (e' := (nE (zi (sgN b) (frN b)) (-1074))) x_r
    replace hb := put_belowD (g := w.heap.size) hb (by omega) (.bool (ngB (od (zi (sgN b) (frN b))))) (.slice A2 n2 c2) (.int .i64 (nE (zi (sgN b) (frN b)) (-1074)))
    replace x_r := x_r.put (ngB (od (zi (sgN b) (frN b)))) A2 n2 c2 (nE (zi (sgN b) (frN b)) (-1074))
    clear q_r0 q_r1 f_r0 f_r1 q_r2 f_r2
    generalize ((v5.setCell ⟨w.heap.size, 0, none⟩ (.bool (ngB (od (zi (sgN b) (frN b)))))).setCell ⟨w.heap.size, 1, none⟩ (.slice A2 n2 c2)).setCell ⟨w.heap.size, 2, none⟩ (.int .i64 (nE (zi (sgN b) (frN b)) (-1074))) = v6 at *
    have q_r0 := x_r.c0; have q_r1 := x_r.c1; have f_r0 := x_r.fr 0; have f_r1 := x_r.fr 1; have q_r2 := x_r.c2; have f_r2 := x_r.fr 2
    refine bodyPost_ret (v := .tuple #[.agg #[.bool (ngB (od (zi (sgN b) (frN b)))), .slice A2 n2 c2, .int .i64 (nE (zi (sgN b) (frN b)) (-1074))], .int .i64 0]) (by simp [results, Tryd.results11, go_sem, q_r0, q_r1, q_r2]) rfl ?_
    exact ⟨_, _, _, by rw [HM.out, HE.out], by rw [HM.out]; exact z2, hb⟩
  · have hn : nmN b = true := by unfold nmN; simp [h0, hf]
    have hm : mnN b = frN b + 4503599627370496 := by unfold mnN; rw [if_neg h0]
    have he : exN b = (fdN b : Int) - 1075 := by unfold exN; rw [if_neg h0]
    have w1 : IntKind.u64.wrap ((frN b : Int) + 4503599627370496) = ((mnN b : Nat) : Int) := by rw [hm, wrap_u64]; omega
    have w2 : IntKind.i64.wrap ((fdN b : Int) - 1) = fdN b - 1 := wrap_in (by omega) (by omega)
    have w3 : IntKind.i64.wrap (-1074 + ((fdN b : Int) - 1)) = exN b := by rw [he, wrap_in (by omega) (by omega)]; omega
    have HM := Lib.hid hm; have HE := Lib.hid he; clear hm he
    have hlm : Lm ((mnN b : Nat) : Int) := lm_small (by omega) (by have := mnN_lt b; omega)
    go_enter Tryd.func11, Tryd.ntmps11
    go_wp2_with fail
    have x_r : Dx (w.alloc (.cells #[.bool false, .slice none 0 0, .int .i64 0] 30)) (w.heap.size) false none 0 0 0 := by have := Dx.new w false none 0 0 0; simpa using this
    have hb : Below w.heap.size w (w.alloc (.cells #[.bool false, .slice none 0 0, .int .i64 0] 30)) := (Below.alloc (Below.refl w.heap.size w) (by simp) (.cells #[.bool false, .slice none 0 0, .int .i64 0] 30))
    generalize w.alloc (.cells #[.bool false, .slice none 0 0, .int .i64 0] 30) = v1 at *
    replace hT := hT.keep hb
    have q_r0 := x_r.c0; have q_r1 := x_r.c1; have f_r0 := x_r.fr 0; have f_r1 := x_r.fr 1; have q_r2 := x_r.c2; have f_r2 := x_r.fr 2
    go_wp2_with fail
    with_reducible refine (Parts_any _ b rfl hl).mono ?_
    rintro e v2 ⟨rfl, hb1⟩
    replace x_r := x_r.keep hb1
    replace hT := hT.keep hb1
    replace hb := bthen hb hb1
    clear hb1
    replace q_r0 := x_r.c0; replace q_r1 := x_r.c1; replace f_r0 := x_r.fr 0; replace f_r1 := x_r.fr 1; replace q_r2 := x_r.c2; replace f_r2 := x_r.fr 2
    go_wp2_with fail
    with_reducible refine (Normal_any _ b rfl hl).mono ?_
    rintro e v3 ⟨rfl, hb1⟩
    replace x_r := x_r.keep hb1
    replace hT := hT.keep hb1
    replace hb := bthen hb hb1
    clear hb1
    replace q_r0 := x_r.c0; replace q_r1 := x_r.c1; replace f_r0 := x_r.fr 0; replace f_r1 := x_r.fr 1; replace q_r2 := x_r.c2; replace f_r2 := x_r.fr 2
    rw [hn]
    go_wp2_with fail
    have hb1 := below_alloc v3 (.cells #[.int .u64 (mnN b : Nat)] 22)
    replace x_r := x_r.keep hb1
    replace hT := hT.keep hb1
    replace hb := bthen hb hb1
    clear hb1
    replace q_r0 := x_r.c0; replace q_r1 := x_r.c1; replace f_r0 := x_r.fr 0; replace f_r1 := x_r.fr 1; replace q_r2 := x_r.c2; replace f_r2 := x_r.fr 2
    have u1 := lay1 v3 (mnN b : Nat) hlm
    clear q_r0 q_r1 f_r0 f_r1
    generalize v3.alloc (.cells #[.int .u64 (mnN b : Nat)] 22) = v4 at *
    have q_r0 := x_r.c0; have q_r1 := x_r.c1; have f_r0 := x_r.fr 0; have f_r1 := x_r.fr 1; have q_r2 := x_r.c2; have f_r2 := x_r.fr 2
    go_wp2_with fail
    with_reducible refine (DOf_any (zr_one u1) hT 2 (by omega) (by omega)).mono ?_
    rintro e v5 ⟨A2, n2, c2, rfl, z2, hb1⟩
    replace x_r := x_r.keep hb1
    replace hT := hT.keep hb1
    replace u1 := u1.go hb1
    replace hb := bthen hb hb1
    clear hb1
    replace q_r0 := x_r.c0; replace q_r1 := x_r.c1; replace f_r0 := x_r.fr 0; replace f_r1 := x_r.fr 1; replace q_r2 := x_r.c2; replace f_r2 := x_r.fr 2
    rw [HCE.out, HCX.out]
    rw [HCE.out] at z2
    go_wp2
    replace hT := hT.putD (b' := (ngB (od (zi (sgN b) (mnN b))))) (A' := A2) (n' := n2) (c' := c2) (e' := (nE (zi (sgN b) (mnN b)) (exN b))) x_r
    replace u1 := u1.sputD (b' := (ngB (od (zi (sgN b) (mnN b))))) (A' := A2) (n' := n2) (c' := c2) (e' := (nE (zi (sgN b) (mnN b)) (exN b))) x_r
    replace z2 := z2.putD (b' := (ngB (od (zi (sgN b) (mnN b))))) (A' := A2) (n' := n2) (c' := c2) (e' := (nE (zi (sgN b) (mnN b)) (exN b))) x_r
    replace hb := put_belowD (g := w.heap.size) hb (by omega) (.bool (ngB (od (zi (sgN b) (mnN b))))) (.slice A2 n2 c2) (.int .i64 (nE (zi (sgN b) (mnN b)) (exN b)))
    replace x_r := x_r.put (ngB (od (zi (sgN b) (mnN b)))) A2 n2 c2 (nE (zi (sgN b) (mnN b)) (exN b))
    clear q_r0 q_r1 f_r0 f_r1 q_r2 f_r2
    generalize ((v5.setCell ⟨w.heap.size, 0, none⟩ (.bool (ngB (od (zi (sgN b) (mnN b)))))).setCell ⟨w.heap.size, 1, none⟩ (.slice A2 n2 c2)).setCell ⟨w.heap.size, 2, none⟩ (.int .i64 (nE (zi (sgN b) (mnN b)) (exN b))) = v6 at *
    have q_r0 := x_r.c0; have q_r1 := x_r.c1; have f_r0 := x_r.fr 0; have f_r1 := x_r.fr 1; have q_r2 := x_r.c2; have f_r2 := x_r.fr 2
    refine bodyPost_ret (v := .tuple #[.agg #[.bool (ngB (od (zi (sgN b) (mnN b)))), .slice A2 n2 c2, .int .i64 (nE (zi (sgN b) (mnN b)) (exN b))], .int .i64 0]) (by simp [results, Tryd.results11, go_sem, q_r0, q_r1, q_r2]) rfl ?_
    exact ⟨_, _, _, rfl, z2, hb⟩

end Go.Proofs.YthbodamihiddhaaDoor
