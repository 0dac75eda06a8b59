/-
  The document's answer for zed: Make, Norm, Neg, Abs, Equal, Of.
-/
import Derived.Test.YtcoidcbbdibnaaaDoorZsmall
import Derived.Test.YtcoidcbbdibnaaaDoorAll
namespace Go.Proofs.YtcoidcbbdibnaaaDoor
open Go.RowKit
set_option linter.unusedVariables false

theorem ZOut.mk {w w' : World} {b b' : Bool} {A : Option Addr} {n c N k : Nat} (h : Rd w' w'.heap.size A n c (dg Wd N)) (hs : Sm N k) (he : b' = ngB (zi b N)) (hb : Below w.heap.size w w') : OutZ w (zi b N) k (.returned (.agg #[.bool b', .slice A n c])) w' :=
  ⟨A, n, c, by rw [he], ⟨by rw [zi_abs]; exact h, h.small hs⟩, hb⟩
set_option maxRecDepth 100000 in
set_option maxHeartbeats 2000000 in
theorem RMake_any {b : Bool} {A : Option Addr} {n c : Nat} {l : List Int} {w : World} (h : Rd w w.heap.size A n c l) (N k : Nat) (hN : vl Wd l = N) (hs : Sm N k) (hn : n ≤ 1000000) :
    Calls Tryd.prog 82 #[.bool b, .slice A n c] w (OutZ w (zi b N) k) := by
  have HN := Lib.hid hN; clear hN
  cases b
  · skip
    go_enter Tryd.func82, Tryd.ntmps82
    go_wp2_with fail
    obtain ⟨hb, x_r⟩ := box1 w false none 0 0
    generalize w.alloc (.cells #[.bool false, .slice none 0 0] 24) = v1 at *
    replace h := h.go hb
    have q_r0 := x_r.c0; have q_r1 := x_r.c1; have f_r0 := x_r.fr 0; have f_r1 := x_r.fr 1
    go_wp2_with fail
    with_reducible refine (RNorm_any _ _ _ _ _ h (by omega)).mono ?_
    rintro e v2 ⟨A1, n1, c1, rfl, g1, hb1⟩
    replace x_r := x_r.keep hb1
    replace h := h.go hb1
    replace hb := bthen hb hb1
    clear hb1
    replace q_r0 := x_r.c0; replace q_r1 := x_r.c1; replace f_r0 := x_r.fr 0; replace f_r1 := x_r.fr 1
    rw [HN.out] at g1
    go_wp2
    replace h := h.sput (b' := false) (A' := A1) (n' := n1) (c' := c1) x_r
    replace g1 := g1.sput (b' := false) (A' := A1) (n' := n1) (c' := c1) x_r
    replace hb := put_below (g := w.heap.size) hb (by omega) (.bool false) (.slice A1 n1 c1)
    replace x_r := x_r.put false A1 n1 c1
    clear q_r0 q_r1 f_r0 f_r1
    generalize (v2.setCell ⟨w.heap.size, 0, none⟩ (.bool false)).setCell ⟨w.heap.size, 1, none⟩ (.slice A1 n1 c1) = v3 at *
    have q_r0 := x_r.c0; have q_r1 := x_r.c1; have f_r0 := x_r.fr 0; have f_r1 := x_r.fr 1
    refine bodyPost_ret (v := .agg #[.bool false, .slice A1 n1 c1]) (by simp [results, Tryd.results82, go_sem, q_r0, q_r1]) rfl ?_
    exact ZOut.mk g1 hs (ngB_false _).symm hb
  · rcases Nat.eq_zero_or_pos N with h0 | h0
    · subst h0
      go_enter Tryd.func82, Tryd.ntmps82
      go_wp2_with fail
      obtain ⟨hb, x_r⟩ := box1 w false none 0 0
      generalize w.alloc (.cells #[.bool false, .slice none 0 0] 24) = v1 at *
      replace h := h.go hb
      have q_r0 := x_r.c0; have q_r1 := x_r.c1; have f_r0 := x_r.fr 0; have f_r1 := x_r.fr 1
      go_wp2_with fail
      with_reducible refine (RNorm_any _ _ _ _ _ h (by omega)).mono ?_
      rintro e v2 ⟨A1, n1, c1, rfl, g1, hb1⟩
      replace x_r := x_r.keep hb1
      replace h := h.go hb1
      replace hb := bthen hb hb1
      clear hb1
      replace q_r0 := x_r.c0; replace q_r1 := x_r.c1; replace f_r0 := x_r.fr 0; replace f_r1 := x_r.fr 1
      rw [HN.out] at g1
      obtain rfl := rd_zero g1 rfl
      go_wp2
      replace h := h.sput (b' := false) (A' := A1) (n' := 0) (c' := c1) x_r
      replace g1 := g1.sput (b' := false) (A' := A1) (n' := 0) (c' := c1) x_r
      replace hb := put_below (g := w.heap.size) hb (by omega) (.bool false) (.slice A1 0 c1)
      replace x_r := x_r.put false A1 0 c1
      clear q_r0 q_r1 f_r0 f_r1
      generalize (v2.setCell ⟨w.heap.size, 0, none⟩ (.bool false)).setCell ⟨w.heap.size, 1, none⟩ (.slice A1 0 c1) = v3 at *
      have q_r0 := x_r.c0; have q_r1 := x_r.c1; have f_r0 := x_r.fr 0; have f_r1 := x_r.fr 1
      refine bodyPost_ret (v := .agg #[.bool false, .slice A1 0 c1]) (by simp [results, Tryd.results82, go_sem, q_r0, q_r1]) rfl ?_
      exact ZOut.mk g1 hs (ngB_zero _).symm hb
    · skip
      go_enter Tryd.func82, Tryd.ntmps82
      go_wp2_with fail
      obtain ⟨hb, x_r⟩ := box1 w false none 0 0
      generalize w.alloc (.cells #[.bool false, .slice none 0 0] 24) = v1 at *
      replace h := h.go hb
      have q_r0 := x_r.c0; have q_r1 := x_r.c1; have f_r0 := x_r.fr 0; have f_r1 := x_r.fr 1
      go_wp2_with fail
      with_reducible refine (RNorm_any _ _ _ _ _ h (by omega)).mono ?_
      rintro e v2 ⟨A1, n1, c1, rfl, g1, hb1⟩
      replace x_r := x_r.keep hb1
      replace h := h.go hb1
      replace hb := bthen hb hb1
      clear hb1
      replace q_r0 := x_r.c0; replace q_r1 := x_r.c1; replace f_r0 := x_r.fr 0; replace f_r1 := x_r.fr 1
      rw [HN.out] at g1
      have hp := rd_pos g1 h0
      go_wp2
      replace h := h.sput (b' := true) (A' := A1) (n' := n1) (c' := c1) x_r
      replace g1 := g1.sput (b' := true) (A' := A1) (n' := n1) (c' := c1) x_r
      replace hb := put_below (g := w.heap.size) hb (by omega) (.bool true) (.slice A1 n1 c1)
      replace x_r := x_r.put true A1 n1 c1
      clear q_r0 q_r1 f_r0 f_r1
      generalize (v2.setCell ⟨w.heap.size, 0, none⟩ (.bool true)).setCell ⟨w.heap.size, 1, none⟩ (.slice A1 n1 c1) = v3 at *
      have q_r0 := x_r.c0; have q_r1 := x_r.c1; have f_r0 := x_r.fr 0; have f_r1 := x_r.fr 1
      refine bodyPost_ret (v := .agg #[.bool true, .slice A1 n1 c1]) (by simp [results, Tryd.results82, go_sem, q_r0, q_r1]) rfl ?_
      exact ZOut.mk g1 hs (ngB_true h0).symm hb

set_option maxRecDepth 100000 in
set_option maxHeartbeats 1000000 in
theorem RNormZ_any {b : Bool} {A : Option Addr} {n c : Nat} {X : Int} {j : Nat} {w : World} (h : Zr w b A n c X j) (k : Nat) (hk : j ≤ k) (hj : k ≤ 1000000) :
    Calls Tryd.prog 78 #[.agg #[.bool b, .slice A n c]] w (OutZ w X k) := by
  obtain ⟨l, h, rfl, hn⟩ := h
  have hs := Sm.of h hn
  generalize hN : vl Wd l = N at *
  have HN := Lib.hid hN; clear hN
  replace hs := hs.mono hk
  go_enter Tryd.func78, Tryd.ntmps78
  go_wp2_with fail
  obtain ⟨hb, x_a, x_r⟩ := box2 w b A n c false none 0 0
  generalize (w.alloc (.cells #[.bool b, .slice A n c] 24)).alloc (.cells #[.bool false, .slice none 0 0] 24) = v1 at *
  replace h := h.go hb
  have q_a0 := x_a.c0; have q_a1 := x_a.c1; have f_a0 := x_a.fr 0; have f_a1 := x_a.fr 1
  have q_r0 := x_r.c0; have q_r1 := x_r.c1; have f_r0 := x_r.fr 0; have f_r1 := x_r.fr 1
  go_wp2_with fail
  with_reducible refine (RMake_any h N k HN.out hs (by omega)).mono ?_
  rintro e v2 ⟨A1, n1, c1, rfl, z1, hb1⟩
  replace x_a := x_a.keep hb1
  replace x_r := x_r.keep hb1
  replace h := h.go hb1
  replace hb := bthen hb hb1
  clear hb1
  replace q_a0 := x_a.c0; replace q_a1 := x_a.c1; replace f_a0 := x_a.fr 0; replace f_a1 := x_a.fr 1
  replace q_r0 := x_r.c0; replace q_r1 := x_r.c1; replace f_r0 := x_r.fr 0; replace f_r1 := x_r.fr 1
  go_wp2
  replace x_a := x_a.aside (b' := (ngB (zi b N))) (A' := A1) (n' := n1) (c' := c1) (g := w.heap.size + 1) (by omega)
  replace h := h.sput (b' := (ngB (zi b N))) (A' := A1) (n' := n1) (c' := c1) x_r
  replace z1 := z1.put (b' := (ngB (zi b N))) (A' := A1) (n' := n1) (c' := c1) x_r
  replace hb := put_below (g := w.heap.size + 1) hb (by omega) (.bool (ngB (zi b N))) (.slice A1 n1 c1)
  replace x_r := x_r.put (ngB (zi b N)) A1 n1 c1
  clear q_a0 q_a1 f_a0 f_a1 q_r0 q_r1 f_r0 f_r1
  generalize (v2.setCell ⟨w.heap.size + 1, 0, none⟩ (.bool (ngB (zi b N)))).setCell ⟨w.heap.size + 1, 1, none⟩ (.slice A1 n1 c1) = v3 at *
  have q_a0 := x_a.c0; have q_a1 := x_a.c1; have f_a0 := x_a.fr 0; have f_a1 := x_a.fr 1
  have q_r0 := x_r.c0; have q_r1 := x_r.c1; have f_r0 := x_r.fr 0; have f_r1 := x_r.fr 1
  refine bodyPost_ret (v := .agg #[.bool (ngB (zi b N)), .slice A1 n1 c1]) (by simp [results, Tryd.results78, go_sem, q_r0, q_r1]) rfl ?_
  exact ⟨_, _, _, rfl, z1, hb⟩

set_option maxRecDepth 100000 in
set_option maxHeartbeats 1000000 in
theorem RNegZ_any {b : Bool} {A : Option Addr} {n c : Nat} {X : Int} {j : Nat} {w : World} (h : Zr w b A n c X j) (k : Nat) (hk : j ≤ k) (hj : k ≤ 1000000) :
    Calls Tryd.prog 60 #[.agg #[.bool b, .slice A n c]] w (OutZ w (-X) k) := by
  obtain ⟨l, h, rfl, hn⟩ := h
  have hs := Sm.of h hn
  generalize hN : vl Wd l = N at *
  have HN := Lib.hid hN; clear hN
  replace hs := hs.mono hk
  rw [← zi_not]
  go_enter Tryd.func60, Tryd.ntmps60
  go_wp2_with fail
  obtain ⟨hb, x_a, x_r⟩ := box2 w b A n c false none 0 0
  generalize (w.alloc (.cells #[.bool b, .slice A n c] 24)).alloc (.cells #[.bool false, .slice none 0 0] 24) = v1 at *
  replace h := h.go hb
  have q_a0 := x_a.c0; have q_a1 := x_a.c1; have f_a0 := x_a.fr 0; have f_a1 := x_a.fr 1
  have q_r0 := x_r.c0; have q_r1 := x_r.c1; have f_r0 := x_r.fr 0; have f_r1 := x_r.fr 1
  go_wp2_with fail
  with_reducible refine (RMake_any (b := (!b)) h N k HN.out hs (by omega)).mono ?_
  rintro e v2 ⟨A1, n1, c1, rfl, z1, hb1⟩
  replace x_a := x_a.keep hb1
  replace x_r := x_r.keep hb1
  replace h := h.go hb1
  replace hb := bthen hb hb1
  clear hb1
  replace q_a0 := x_a.c0; replace q_a1 := x_a.c1; replace f_a0 := x_a.fr 0; replace f_a1 := x_a.fr 1
  replace q_r0 := x_r.c0; replace q_r1 := x_r.c1; replace f_r0 := x_r.fr 0; replace f_r1 := x_r.fr 1
  go_wp2
  replace x_a := x_a.aside (b' := (ngB (zi (!b) N))) (A' := A1) (n' := n1) (c' := c1) (g := w.heap.size + 1) (by omega)
  replace h := h.sput (b' := (ngB (zi (!b) N))) (A' := A1) (n' := n1) (c' := c1) x_r
  replace z1 := z1.put (b' := (ngB (zi (!b) N))) (A' := A1) (n' := n1) (c' := c1) x_r
  replace hb := put_below (g := w.heap.size + 1) hb (by omega) (.bool (ngB (zi (!b) N))) (.slice A1 n1 c1)
  replace x_r := x_r.put (ngB (zi (!b) N)) A1 n1 c1
  clear q_a0 q_a1 f_a0 f_a1 q_r0 q_r1 f_r0 f_r1
  generalize (v2.setCell ⟨w.heap.size + 1, 0, none⟩ (.bool (ngB (zi (!b) N)))).setCell ⟨w.heap.size + 1, 1, none⟩ (.slice A1 n1 c1) = v3 at *
  have q_a0 := x_a.c0; have q_a1 := x_a.c1; have f_a0 := x_a.fr 0; have f_a1 := x_a.fr 1
  have q_r0 := x_r.c0; have q_r1 := x_r.c1; have f_r0 := x_r.fr 0; have f_r1 := x_r.fr 1
  refine bodyPost_ret (v := .agg #[.bool (ngB (zi (!b) N)), .slice A1 n1 c1]) (by simp [results, Tryd.results60, go_sem, q_r0, q_r1]) rfl ?_
  exact ⟨_, _, _, rfl, z1, hb⟩

theorem Zn.same {w : World} {A A2 : Option Addr} {n c n2 c2 k k2 : Nat} {X : Int} (h : Zn w A n c X k) (h2 : Zn w A2 n2 c2 X k2) : True := trivial
set_option maxRecDepth 100000 in
set_option maxHeartbeats 2000000 in
theorem REqual_any {A A2 : Option Addr} {n c n2 c2 k k2 : Nat} {X : Int} {w : World} (h : Zn w A n c X k) (h2 : Zn w A2 n2 c2 X k2) :
    Calls Tryd.prog 32 #[.agg #[.bool (ngB X), .slice A n c], .agg #[.bool (ngB X), .slice A2 n2 c2]] w fun e w' => e = .returned (.bool true) ∧ Below w.heap.size w w' := by
  go_enter Tryd.func32, Tryd.ntmps32
  go_wp2_with fail
  obtain ⟨hb, x_a, x_b⟩ := box2 w (ngB X) A n c (ngB X) A2 n2 c2
  generalize (w.alloc (.cells #[.bool (ngB X), .slice A n c] 24)).alloc (.cells #[.bool (ngB X), .slice A2 n2 c2] 24) = v1 at *
  replace h := h.keep hb
  replace h2 := h2.keep hb
  have q_a0 := x_a.c0; have q_a1 := x_a.c1; have f_a0 := x_a.fr 0; have f_a1 := x_a.fr 1
  have q_b0 := x_b.c0; have q_b1 := x_b.c1; have f_b0 := x_b.fr 0; have f_b1 := x_b.fr 1
  refine (Same_any _ _ _ _ _ _ _ _ _ _ h.1 h2.1).mono ?_
  rintro e v9 ⟨rfl, hq⟩
  rw [sameB_self]
  have hb1 := hq.bel; clear hq
  replace x_a := x_a.keep hb1
  replace x_b := x_b.keep hb1
  replace h := h.keep hb1
  replace h2 := h2.keep hb1
  replace hb := bthen hb hb1
  clear hb1
  replace q_a0 := x_a.c0; replace q_a1 := x_a.c1; replace f_a0 := x_a.fr 0; replace f_a1 := x_a.fr 1
  replace q_b0 := x_b.c0; replace q_b1 := x_b.c1; replace f_b0 := x_b.fr 0; replace f_b1 := x_b.fr 1
  go_wp2
  go_ret
  exact ⟨rfl, hb⟩

theorem of_neg {m : Int} (h0 : 0 < m) (h1 : m ≤ 9223372036854775808) : IntKind.i64.wrap (-m + 1) = -m + 1 ∧ IntKind.i64.wrap (-(-m + 1)) = m - 1 ∧ IntKind.u64.wrap (m - 1) = m - 1 ∧ IntKind.u64.wrap (m - 1 + 1) = m := by
  refine ⟨i64_keep (by omega) (by omega), ?_, ?_, ?_⟩
  · rw [i64_keep (by omega) (by omega)]; omega
  · rw [wrap_u64]; omega
  · rw [wrap_u64]; omega
end Go.Proofs.YtcoidcbbdibnaaaDoor
