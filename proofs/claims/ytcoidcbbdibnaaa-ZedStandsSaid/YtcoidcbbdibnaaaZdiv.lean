/-
  zed: DivMod.
-/
import Derived.Test.YtcoidcbbdibnaaaZmul
namespace Go.Proofs.Ytcoidcbbdibnaaa
open Go.RowKit
set_option linter.unusedVariables false

theorem ed_unique {X Y q r : Int} (hY : Y ≠ 0) (h : X = Y * q + r) (h0 : 0 ≤ r) (h1 : r < (Y.natAbs : Int)) : X / Y = q ∧ X % Y = r := by
  rcases Int.lt_or_gt_of_ne hY with hn | hp
  · have := (Int.ediv_emod_unique (a := X) (b := -Y) (r := r) (q := -q) (by omega)).2 ⟨by rw [h, Int.neg_mul_neg]; omega, h0, by omega⟩
    rw [Int.ediv_neg, Int.emod_neg] at this
    exact ⟨by omega, this.2⟩
  · exact (Int.ediv_emod_unique hp).2 ⟨by rw [h]; omega, h0, by omega⟩
theorem zi_ne {b : Bool} {M : Nat} (h : 0 < M) : zi b M ≠ 0 := by unfold zi; split <;> omega
theorem dm_plain {b b2 : Bool} {N M : Nat} (hM : 0 < M) (h : b = false ∨ N % M = 0) : zi b N / zi b2 M = zi (!(b == b2)) (N / M) ∧ zi b N % zi b2 M = zi false (N % M) := by
  have h1 := Nat.mod_add_div N M
  have h2 := Nat.mod_lt N hM
  refine ed_unique (zi_ne hM) ?_ (by rw [zi_false]; omega) (by rw [zi_abs, zi_false]; omega)
  rw [zi_mul']
  rcases h with rfl | h
  · have e : (!b2 == !(false == b2)) = false := by cases b2 <;> rfl
    have e' : (!(b2 == !(false == b2))) = false := by cases b2 <;> rfl
    rw [e', zi_false, zi_false, zi_false]; omega
  · have e' : (!(b2 == !(b == b2))) = b := by cases b2 <;> cases b <;> rfl
    rw [e', h, zi_false]
    have : M * (N / M) = N := by omega
    rw [this]; simp
theorem dm_more {b2 : Bool} {N M : Nat} (hM : 0 < M) (h : 0 < N % M) : zi true N / zi b2 M = zi (!(true == b2)) (N / M + 1) ∧ zi true N % zi b2 M = zi false (M - N % M) := by
  have h1 := Nat.mod_add_div N M
  have h2 := Nat.mod_lt N hM
  refine ed_unique (zi_ne hM) ?_ (by rw [zi_false]; omega) (by rw [zi_abs, zi_false]; omega)
  rw [zi_mul']
  have e' : (!(b2 == !(true == b2))) = true := by cases b2 <;> rfl
  rw [e', zi_true, zi_true, zi_false, Nat.mul_add, Nat.mul_one]
  omega
def DqPost (w : World) (Q R : Int) (k : Nat) (e : Ending) (w' : World) : Prop :=
  ∃ A n c A2 n2 c2, e = .returned (.tuple #[.agg #[.bool (ngB Q), .slice A n c], .agg #[.bool (ngB R), .slice A2 n2 c2], .bool true]) ∧ Zn w' A n c Q k ∧ Zn w' A2 n2 c2 R k ∧ Below w.heap.size w w'
theorem rd_zero {w : World} {B n c N : Nat} {A : Option Addr} (h : Rd w B A n c (dg Wd N)) (h0 : N = 0) : n = 0 := by
  have := h.len; rw [h0, dg_zero] at this; simpa using this.symm
theorem rd_pos {w : World} {B n c N : Nat} {A : Option Addr} (h : Rd w B A n c (dg Wd N)) (h0 : 0 < N) : 0 < n := by
  rcases Nat.eq_zero_or_pos n with h1 | h1
  · have := h.len; rw [h1] at this; have := (dg_eq_nil Wd2).1 (List.eq_nil_of_length_eq_zero this); omega
  · exact h1
theorem Sm.le1 {N k : Nat} (h : Sm N (k - 1)) (hk : 1 ≤ k) : Sm (N + 1) k := by
  unfold Sm at *
  obtain ⟨q, rfl⟩ : ∃ q, k = q + 1 := ⟨k - 1, by omega⟩
  rw [Nat.add_sub_cancel] at h
  have := Nat.mul_le_mul_left (Wd ^ q) Wd2
  have h0 : 0 < Wd ^ q := Nat.pow_pos Wd0
  rw [Nat.pow_succ]
  generalize Wd ^ q * Wd = r at *
  generalize Wd ^ q = s at *
  omega
theorem Sm.mod {N M k : Nat} (h : Sm N k) : Sm (N % M) k := h.le (Nat.mod_le _ _)

set_option maxRecDepth 100000 in
set_option maxHeartbeats 2000000 in
theorem ZDivMod_zero {b b2 : Bool} {A A2 : Option Addr} {n c n2 c2 : Nat} {X Y : Int} {j j2 : Nat} {w : World} (h : Zr w b A n c X j) (h2 : Zr w b2 A2 n2 c2 Y j2) (hY : Y = 0) :
    Calls Try.prog 25 #[.agg #[.bool b, .slice A n c], .agg #[.bool b2, .slice A2 n2 c2]] w fun e w' => e = .returned (.tuple #[.agg #[.bool false, .slice none 0 0], .agg #[.bool false, .slice none 0 0], .bool false]) ∧ Below w.heap.size w w' := by
  obtain ⟨l, h, rfl, hn⟩ := h
  obtain ⟨m, h2, hY2, hn2⟩ := h2
  have hM : vl Wd m = 0 := by have := zi_abs b2 (vl Wd m); rw [hY2, hY] at this; exact this.symm
  have HM := Lib.hid hM; clear hM hY2 hY
  go_enter Try.func25, Try.ntmps25
  go_wp2_with fail
  obtain ⟨hb, x_a, x_b, x_q, x_r⟩ := box4 w b A n c b2 A2 n2 c2 false none 0 0 false none 0 0
  generalize (((w.alloc (.cells #[.bool b, .slice A n c] 24)).alloc (.cells #[.bool b2, .slice A2 n2 c2] 24)).alloc (.cells #[.bool false, .slice none 0 0] 24)).alloc (.cells #[.bool false, .slice none 0 0] 24) = v1 at *
  replace h := h.go hb
  replace h2 := h2.go hb
  have q_a0 := x_a.c0; have q_a1 := x_a.c1; have f_a0 := x_a.fr 0; have f_a1 := x_a.fr 1
  have q_b0 := x_b.c0; have q_b1 := x_b.c1; have f_b0 := x_b.fr 0; have f_b1 := x_b.fr 1
  have q_q0 := x_q.c0; have q_q1 := x_q.c1; have f_q0 := x_q.fr 0; have f_q1 := x_q.fr 1
  have q_r0 := x_r.c0; have q_r1 := x_r.c1; have f_r0 := x_r.fr 0; have f_r1 := x_r.fr 1
  go_wp2_with fail
  refine (DivMod_zero _ _ _ _ _ _ _ _ _ h h2 HM.out).mono ?_
  rintro e w' ⟨rfl, rfl⟩
  go_wp2
  replace x_a := x_a.aside (b' := false) (A' := none) (n' := 0) (c' := 0) (g := w.heap.size + 1 + 1) (by omega)
  replace x_b := x_b.aside (b' := false) (A' := none) (n' := 0) (c' := 0) (g := w.heap.size + 1 + 1) (by omega)
  replace x_r := x_r.aside (b' := false) (A' := none) (n' := 0) (c' := 0) (g := w.heap.size + 1 + 1) (by omega)
  replace h := h.sput (b' := false) (A' := none) (n' := 0) (c' := 0) x_q
  replace h2 := h2.sput (b' := false) (A' := none) (n' := 0) (c' := 0) x_q
  replace hb := put_below (g := w.heap.size + 1 + 1) hb (by omega) (.bool false) (.slice none 0 0)
  replace x_q := x_q.put false none 0 0
  clear q_a0 q_a1 f_a0 f_a1 q_b0 q_b1 f_b0 f_b1 q_q0 q_q1 f_q0 f_q1 q_r0 q_r1 f_r0 f_r1
  generalize (v1.setCell ⟨w.heap.size + 1 + 1, 0, none⟩ (.bool false)).setCell ⟨w.heap.size + 1 + 1, 1, none⟩ (.slice none 0 0) = v2 at *
  have q_a0 := x_a.c0; have q_a1 := x_a.c1; have f_a0 := x_a.fr 0; have f_a1 := x_a.fr 1
  have q_b0 := x_b.c0; have q_b1 := x_b.c1; have f_b0 := x_b.fr 0; have f_b1 := x_b.fr 1
  have q_q0 := x_q.c0; have q_q1 := x_q.c1; have f_q0 := x_q.fr 0; have f_q1 := x_q.fr 1
  have q_r0 := x_r.c0; have q_r1 := x_r.c1; have f_r0 := x_r.fr 0; have f_r1 := x_r.fr 1
  replace x_a := x_a.aside (b' := false) (A' := none) (n' := 0) (c' := 0) (g := w.heap.size + 1 + 1 + 1) (by omega)
  replace x_b := x_b.aside (b' := false) (A' := none) (n' := 0) (c' := 0) (g := w.heap.size + 1 + 1 + 1) (by omega)
  replace x_q := x_q.aside (b' := false) (A' := none) (n' := 0) (c' := 0) (g := w.heap.size + 1 + 1 + 1) (by omega)
  replace h := h.sput (b' := false) (A' := none) (n' := 0) (c' := 0) x_r
  replace h2 := h2.sput (b' := false) (A' := none) (n' := 0) (c' := 0) x_r
  replace hb := put_below (g := w.heap.size + 1 + 1 + 1) hb (by omega) (.bool false) (.slice none 0 0)
  replace x_r := x_r.put false none 0 0
  clear q_a0 q_a1 f_a0 f_a1 q_b0 q_b1 f_b0 f_b1 q_q0 q_q1 f_q0 f_q1 q_r0 q_r1 f_r0 f_r1
  generalize (v2.setCell ⟨w.heap.size + 1 + 1 + 1, 0, none⟩ (.bool false)).setCell ⟨w.heap.size + 1 + 1 + 1, 1, none⟩ (.slice none 0 0) = v3 at *
  have q_a0 := x_a.c0; have q_a1 := x_a.c1; have f_a0 := x_a.fr 0; have f_a1 := x_a.fr 1
  have q_b0 := x_b.c0; have q_b1 := x_b.c1; have f_b0 := x_b.fr 0; have f_b1 := x_b.fr 1
  have q_q0 := x_q.c0; have q_q1 := x_q.c1; have f_q0 := x_q.fr 0; have f_q1 := x_q.fr 1
  have q_r0 := x_r.c0; have q_r1 := x_r.c1; have f_r0 := x_r.fr 0; have f_r1 := x_r.fr 1
  refine bodyPost_ret (v := .tuple #[.agg #[.bool false, .slice none 0 0], .agg #[.bool false, .slice none 0 0], .bool false]) (by simp [results, Try.results25, go_sem, q_q0, q_q1, q_r0, q_r1]) rfl ?_
  exact ⟨rfl, hb⟩

set_option maxRecDepth 100000 in
set_option maxHeartbeats 8000000 in
theorem ZDivMod_any {b b2 : Bool} {A A2 : Option Addr} {n c n2 c2 : Nat} {X Y : Int} {j j2 : Nat} {w : World} (h : Zr w b A n c X j) (h2 : Zr w b2 A2 n2 c2 Y j2) (hY : Y ≠ 0) (k : Nat) (hk : j + 1 ≤ k) (hk2 : j2 ≤ k) (hj : k ≤ 1000000) :
    Calls Try.prog 25 #[.agg #[.bool b, .slice A n c], .agg #[.bool b2, .slice A2 n2 c2]] w (DqPost w (X / Y) (X % Y) k) := by
  obtain ⟨l, h, rfl, hn⟩ := h
  obtain ⟨m, h2, rfl, hn2⟩ := h2
  have hs := Sm.of h hn
  have hs2 := Sm.of h2 hn2
  generalize hN : vl Wd l = N at *
  have HN := Lib.hid hN; clear hN
  generalize hM : vl Wd m = M at *
  have HM := Lib.hid hM; clear hM
  have hM0 : 0 < M := by
    rcases Nat.eq_zero_or_pos M with h0 | h0
    · subst h0; exact absurd (by cases b2 <;> simp [zi]) hY
    · exact h0
  clear hY
  have hQ : Sm (N / M) k := (hs.div M).mono (by omega)
  have hR : Sm (N % M) k := hs.mod.mono (by omega)
  have hI : Sm (N / M + 1) k := ((hs.div M).mono (show j ≤ k - 1 by omega)).le1 (by omega)
  have hD : Sm (M - N % M) k := (hs2.mono hk2).sub
  clear hs hs2
  by_cases hc : b = false ∨ N % M = 0
  · obtain ⟨e1, e2⟩ := dm_plain (b2 := b2) hM0 hc
    rw [e1, e2]
    clear e1 e2
    generalize hQ9 : N / M = Q at *
    generalize hR9 : N % M = R at *
    have HQ := Lib.hid hQ9; have HR := Lib.hid hR9; clear hQ9 hR9
    rcases Bool.eq_false_or_eq_true b with hbt | hbf
    · subst hbt
      rw [show (!(true == b2)) = !b2 by cases b2 <;> rfl]
      have hR0 : R = 0 := hc.resolve_left (by simp)
      have HR0 := Lib.hid hR0; clear hR0 hc
      go_enter Try.func25, Try.ntmps25
      go_wp2_with fail
      obtain ⟨hb, x_a, x_b, x_q, x_r⟩ := box4 w true A n c b2 A2 n2 c2 false none 0 0 false none 0 0
      generalize (((w.alloc (.cells #[.bool true, .slice A n c] 24)).alloc (.cells #[.bool b2, .slice A2 n2 c2] 24)).alloc (.cells #[.bool false, .slice none 0 0] 24)).alloc (.cells #[.bool false, .slice none 0 0] 24) = v1 at *
      replace h := h.go hb
      replace h2 := h2.go hb
      have q_a0 := x_a.c0; have q_a1 := x_a.c1; have f_a0 := x_a.fr 0; have f_a1 := x_a.fr 1
      have q_b0 := x_b.c0; have q_b1 := x_b.c1; have f_b0 := x_b.fr 0; have f_b1 := x_b.fr 1
      have q_q0 := x_q.c0; have q_q1 := x_q.c1; have f_q0 := x_q.fr 0; have f_q1 := x_q.fr 1
      have q_r0 := x_r.c0; have q_r1 := x_r.c1; have f_r0 := x_r.fr 0; have f_r1 := x_r.fr 1
      go_wp2_with fail
      with_reducible refine (DivMod_any _ _ _ _ _ _ _ _ _ h h2 (by omega) (by rw [HM.out]; exact hM0)).mono ?_
      rintro e v2 ⟨A1, n1, c1, A2_, n2_, c2_, rfl, g1, g2, hb1⟩
      replace x_a := x_a.keep hb1
      replace x_b := x_b.keep hb1
      replace x_q := x_q.keep hb1
      replace x_r := x_r.keep hb1
      replace h := h.go hb1
      replace h2 := h2.go hb1
      replace hb := bthen hb hb1
      clear hb1
      replace q_a0 := x_a.c0; replace q_a1 := x_a.c1; replace f_a0 := x_a.fr 0; replace f_a1 := x_a.fr 1
      replace q_b0 := x_b.c0; replace q_b1 := x_b.c1; replace f_b0 := x_b.fr 0; replace f_b1 := x_b.fr 1
      replace q_q0 := x_q.c0; replace q_q1 := x_q.c1; replace f_q0 := x_q.fr 0; replace f_q1 := x_q.fr 1
      replace q_r0 := x_r.c0; replace q_r1 := x_r.c1; replace f_r0 := x_r.fr 0; replace f_r1 := x_r.fr 1
      rw [HN.out, HM.out, HQ.out] at g1
      rw [HN.out, HM.out, HR.out] at g2
      obtain rfl := rd_zero g2 HR0.out
      go_wp2_with fail
      with_reducible refine (signed_any (!b2) A1 n1 c1 Q _ k g1 hQ).mono ?_
      rintro e v3 ⟨rfl, z1, hb1⟩
      replace x_a := x_a.keep hb1
      replace x_b := x_b.keep hb1
      replace x_q := x_q.keep hb1
      replace x_r := x_r.keep hb1
      replace h := h.go hb1
      replace h2 := h2.go hb1
      replace g1 := g1.go hb1
      replace g2 := g2.go hb1
      replace hb := bthen hb hb1
      clear hb1
      replace q_a0 := x_a.c0; replace q_a1 := x_a.c1; replace f_a0 := x_a.fr 0; replace f_a1 := x_a.fr 1
      replace q_b0 := x_b.c0; replace q_b1 := x_b.c1; replace f_b0 := x_b.fr 0; replace f_b1 := x_b.fr 1
      replace q_q0 := x_q.c0; replace q_q1 := x_q.c1; replace f_q0 := x_q.fr 0; replace f_q1 := x_q.fr 1
      replace q_r0 := x_r.c0; replace q_r1 := x_r.c1; replace f_r0 := x_r.fr 0; replace f_r1 := x_r.fr 1
      go_wp2_with fail
      with_reducible refine (signed_any false A2_ 0 c2_ R _ k g2 hR).mono ?_
      rintro e v4 ⟨rfl, z2, hb1⟩
      replace x_a := x_a.keep hb1
      replace x_b := x_b.keep hb1
      replace x_q := x_q.keep hb1
      replace x_r := x_r.keep hb1
      replace h := h.go hb1
      replace h2 := h2.go hb1
      replace g1 := g1.go hb1
      replace g2 := g2.go hb1
      replace z1 := z1.keep hb1
      replace hb := bthen hb hb1
      clear hb1
      replace q_a0 := x_a.c0; replace q_a1 := x_a.c1; replace f_a0 := x_a.fr 0; replace f_a1 := x_a.fr 1
      replace q_b0 := x_b.c0; replace q_b1 := x_b.c1; replace f_b0 := x_b.fr 0; replace f_b1 := x_b.fr 1
      replace q_q0 := x_q.c0; replace q_q1 := x_q.c1; replace f_q0 := x_q.fr 0; replace f_q1 := x_q.fr 1
      replace q_r0 := x_r.c0; replace q_r1 := x_r.c1; replace f_r0 := x_r.fr 0; replace f_r1 := x_r.fr 1
      go_wp2
      replace x_a := x_a.aside (b' := (ngB (zi (!b2) Q))) (A' := A1) (n' := n1) (c' := c1) (g := w.heap.size + 1 + 1) (by omega)
      replace x_b := x_b.aside (b' := (ngB (zi (!b2) Q))) (A' := A1) (n' := n1) (c' := c1) (g := w.heap.size + 1 + 1) (by omega)
      replace x_r := x_r.aside (b' := (ngB (zi (!b2) Q))) (A' := A1) (n' := n1) (c' := c1) (g := w.heap.size + 1 + 1) (by omega)
      replace h := h.sput (b' := (ngB (zi (!b2) Q))) (A' := A1) (n' := n1) (c' := c1) x_q
      replace h2 := h2.sput (b' := (ngB (zi (!b2) Q))) (A' := A1) (n' := n1) (c' := c1) x_q
      replace g1 := g1.sput (b' := (ngB (zi (!b2) Q))) (A' := A1) (n' := n1) (c' := c1) x_q
      replace g2 := g2.sput (b' := (ngB (zi (!b2) Q))) (A' := A1) (n' := n1) (c' := c1) x_q
      replace z1 := z1.put (b' := (ngB (zi (!b2) Q))) (A' := A1) (n' := n1) (c' := c1) x_q
      replace z2 := z2.put (b' := (ngB (zi (!b2) Q))) (A' := A1) (n' := n1) (c' := c1) x_q
      replace hb := put_below (g := w.heap.size + 1 + 1) hb (by omega) (.bool (ngB (zi (!b2) Q))) (.slice A1 n1 c1)
      replace x_q := x_q.put (ngB (zi (!b2) Q)) A1 n1 c1
      clear q_a0 q_a1 f_a0 f_a1 q_b0 q_b1 f_b0 f_b1 q_q0 q_q1 f_q0 f_q1 q_r0 q_r1 f_r0 f_r1
      generalize (v4.setCell ⟨w.heap.size + 1 + 1, 0, none⟩ (.bool (ngB (zi (!b2) Q)))).setCell ⟨w.heap.size + 1 + 1, 1, none⟩ (.slice A1 n1 c1) = v5 at *
      have q_a0 := x_a.c0; have q_a1 := x_a.c1; have f_a0 := x_a.fr 0; have f_a1 := x_a.fr 1
      have q_b0 := x_b.c0; have q_b1 := x_b.c1; have f_b0 := x_b.fr 0; have f_b1 := x_b.fr 1
      have q_q0 := x_q.c0; have q_q1 := x_q.c1; have f_q0 := x_q.fr 0; have f_q1 := x_q.fr 1
      have q_r0 := x_r.c0; have q_r1 := x_r.c1; have f_r0 := x_r.fr 0; have f_r1 := x_r.fr 1
      replace x_a := x_a.aside (b' := (ngB (zi false R))) (A' := A2_) (n' := 0) (c' := c2_) (g := w.heap.size + 1 + 1 + 1) (by omega)
      replace x_b := x_b.aside (b' := (ngB (zi false R))) (A' := A2_) (n' := 0) (c' := c2_) (g := w.heap.size + 1 + 1 + 1) (by omega)
      replace x_q := x_q.aside (b' := (ngB (zi false R))) (A' := A2_) (n' := 0) (c' := c2_) (g := w.heap.size + 1 + 1 + 1) (by omega)
      replace h := h.sput (b' := (ngB (zi false R))) (A' := A2_) (n' := 0) (c' := c2_) x_r
      replace h2 := h2.sput (b' := (ngB (zi false R))) (A' := A2_) (n' := 0) (c' := c2_) x_r
      replace g1 := g1.sput (b' := (ngB (zi false R))) (A' := A2_) (n' := 0) (c' := c2_) x_r
      replace g2 := g2.sput (b' := (ngB (zi false R))) (A' := A2_) (n' := 0) (c' := c2_) x_r
      replace z1 := z1.put (b' := (ngB (zi false R))) (A' := A2_) (n' := 0) (c' := c2_) x_r
      replace z2 := z2.put (b' := (ngB (zi false R))) (A' := A2_) (n' := 0) (c' := c2_) x_r
      replace hb := put_below (g := w.heap.size + 1 + 1 + 1) hb (by omega) (.bool (ngB (zi false R))) (.slice A2_ 0 c2_)
      replace x_r := x_r.put (ngB (zi false R)) A2_ 0 c2_
      clear q_a0 q_a1 f_a0 f_a1 q_b0 q_b1 f_b0 f_b1 q_q0 q_q1 f_q0 f_q1 q_r0 q_r1 f_r0 f_r1
      generalize (v5.setCell ⟨w.heap.size + 1 + 1 + 1, 0, none⟩ (.bool (ngB (zi false R)))).setCell ⟨w.heap.size + 1 + 1 + 1, 1, none⟩ (.slice A2_ 0 c2_) = v6 at *
      have q_a0 := x_a.c0; have q_a1 := x_a.c1; have f_a0 := x_a.fr 0; have f_a1 := x_a.fr 1
      have q_b0 := x_b.c0; have q_b1 := x_b.c1; have f_b0 := x_b.fr 0; have f_b1 := x_b.fr 1
      have q_q0 := x_q.c0; have q_q1 := x_q.c1; have f_q0 := x_q.fr 0; have f_q1 := x_q.fr 1
      have q_r0 := x_r.c0; have q_r1 := x_r.c1; have f_r0 := x_r.fr 0; have f_r1 := x_r.fr 1
      refine bodyPost_ret (v := .tuple #[.agg #[.bool (ngB (zi (!b2) Q)), .slice A1 n1 c1], .agg #[.bool (ngB (zi false R)), .slice A2_ 0 c2_], .bool true]) (by simp [results, Try.results25, go_sem, q_q0, q_q1, q_r0, q_r1]) rfl ?_
      exact ⟨_, _, _, _, _, _, rfl, z1, z2, hb⟩
    · subst hbf
      rw [show (!(false == b2)) = b2 by cases b2 <;> rfl]
      clear hc
      go_enter Try.func25, Try.ntmps25
      go_wp2_with fail
      obtain ⟨hb, x_a, x_b, x_q, x_r⟩ := box4 w false A n c b2 A2 n2 c2 false none 0 0 false none 0 0
      generalize (((w.alloc (.cells #[.bool false, .slice A n c] 24)).alloc (.cells #[.bool b2, .slice A2 n2 c2] 24)).alloc (.cells #[.bool false, .slice none 0 0] 24)).alloc (.cells #[.bool false, .slice none 0 0] 24) = v1 at *
      replace h := h.go hb
      replace h2 := h2.go hb
      have q_a0 := x_a.c0; have q_a1 := x_a.c1; have f_a0 := x_a.fr 0; have f_a1 := x_a.fr 1
      have q_b0 := x_b.c0; have q_b1 := x_b.c1; have f_b0 := x_b.fr 0; have f_b1 := x_b.fr 1
      have q_q0 := x_q.c0; have q_q1 := x_q.c1; have f_q0 := x_q.fr 0; have f_q1 := x_q.fr 1
      have q_r0 := x_r.c0; have q_r1 := x_r.c1; have f_r0 := x_r.fr 0; have f_r1 := x_r.fr 1
      go_wp2_with fail
      with_reducible refine (DivMod_any _ _ _ _ _ _ _ _ _ h h2 (by omega) (by rw [HM.out]; exact hM0)).mono ?_
      rintro e v2 ⟨A1, n1, c1, A2_, n2_, c2_, rfl, g1, g2, hb1⟩
      replace x_a := x_a.keep hb1
      replace x_b := x_b.keep hb1
      replace x_q := x_q.keep hb1
      replace x_r := x_r.keep hb1
      replace h := h.go hb1
      replace h2 := h2.go hb1
      replace hb := bthen hb hb1
      clear hb1
      replace q_a0 := x_a.c0; replace q_a1 := x_a.c1; replace f_a0 := x_a.fr 0; replace f_a1 := x_a.fr 1
      replace q_b0 := x_b.c0; replace q_b1 := x_b.c1; replace f_b0 := x_b.fr 0; replace f_b1 := x_b.fr 1
      replace q_q0 := x_q.c0; replace q_q1 := x_q.c1; replace f_q0 := x_q.fr 0; replace f_q1 := x_q.fr 1
      replace q_r0 := x_r.c0; replace q_r1 := x_r.c1; replace f_r0 := x_r.fr 0; replace f_r1 := x_r.fr 1
      rw [HN.out, HM.out, HQ.out] at g1
      rw [HN.out, HM.out, HR.out] at g2
      go_wp2_with fail
      with_reducible refine (signed_any b2 A1 n1 c1 Q _ k g1 hQ).mono ?_
      rintro e v3 ⟨rfl, z1, hb1⟩
      replace x_a := x_a.keep hb1
      replace x_b := x_b.keep hb1
      replace x_q := x_q.keep hb1
      replace x_r := x_r.keep hb1
      replace h := h.go hb1
      replace h2 := h2.go hb1
      replace g1 := g1.go hb1
      replace g2 := g2.go hb1
      replace hb := bthen hb hb1
      clear hb1
      replace q_a0 := x_a.c0; replace q_a1 := x_a.c1; replace f_a0 := x_a.fr 0; replace f_a1 := x_a.fr 1
      replace q_b0 := x_b.c0; replace q_b1 := x_b.c1; replace f_b0 := x_b.fr 0; replace f_b1 := x_b.fr 1
      replace q_q0 := x_q.c0; replace q_q1 := x_q.c1; replace f_q0 := x_q.fr 0; replace f_q1 := x_q.fr 1
      replace q_r0 := x_r.c0; replace q_r1 := x_r.c1; replace f_r0 := x_r.fr 0; replace f_r1 := x_r.fr 1
      go_wp2_with fail
      with_reducible refine (signed_any false A2_ n2_ c2_ R _ k g2 hR).mono ?_
      rintro e v4 ⟨rfl, z2, hb1⟩
      replace x_a := x_a.keep hb1
      replace x_b := x_b.keep hb1
      replace x_q := x_q.keep hb1
      replace x_r := x_r.keep hb1
      replace h := h.go hb1
      replace h2 := h2.go hb1
      replace g1 := g1.go hb1
      replace g2 := g2.go hb1
      replace z1 := z1.keep hb1
      replace hb := bthen hb hb1
      clear hb1
      replace q_a0 := x_a.c0; replace q_a1 := x_a.c1; replace f_a0 := x_a.fr 0; replace f_a1 := x_a.fr 1
      replace q_b0 := x_b.c0; replace q_b1 := x_b.c1; replace f_b0 := x_b.fr 0; replace f_b1 := x_b.fr 1
      replace q_q0 := x_q.c0; replace q_q1 := x_q.c1; replace f_q0 := x_q.fr 0; replace f_q1 := x_q.fr 1
      replace q_r0 := x_r.c0; replace q_r1 := x_r.c1; replace f_r0 := x_r.fr 0; replace f_r1 := x_r.fr 1
      go_wp2
      replace x_a := x_a.aside (b' := (ngB (zi b2 Q))) (A' := A1) (n' := n1) (c' := c1) (g := w.heap.size + 1 + 1) (by omega)
      replace x_b := x_b.aside (b' := (ngB (zi b2 Q))) (A' := A1) (n' := n1) (c' := c1) (g := w.heap.size + 1 + 1) (by omega)
      replace x_r := x_r.aside (b' := (ngB (zi b2 Q))) (A' := A1) (n' := n1) (c' := c1) (g := w.heap.size + 1 + 1) (by omega)
      replace h := h.sput (b' := (ngB (zi b2 Q))) (A' := A1) (n' := n1) (c' := c1) x_q
      replace h2 := h2.sput (b' := (ngB (zi b2 Q))) (A' := A1) (n' := n1) (c' := c1) x_q
      replace g1 := g1.sput (b' := (ngB (zi b2 Q))) (A' := A1) (n' := n1) (c' := c1) x_q
      replace g2 := g2.sput (b' := (ngB (zi b2 Q))) (A' := A1) (n' := n1) (c' := c1) x_q
      replace z1 := z1.put (b' := (ngB (zi b2 Q))) (A' := A1) (n' := n1) (c' := c1) x_q
      replace z2 := z2.put (b' := (ngB (zi b2 Q))) (A' := A1) (n' := n1) (c' := c1) x_q
      replace hb := put_below (g := w.heap.size + 1 + 1) hb (by omega) (.bool (ngB (zi b2 Q))) (.slice A1 n1 c1)
      replace x_q := x_q.put (ngB (zi b2 Q)) A1 n1 c1
      clear q_a0 q_a1 f_a0 f_a1 q_b0 q_b1 f_b0 f_b1 q_q0 q_q1 f_q0 f_q1 q_r0 q_r1 f_r0 f_r1
      generalize (v4.setCell ⟨w.heap.size + 1 + 1, 0, none⟩ (.bool (ngB (zi b2 Q)))).setCell ⟨w.heap.size + 1 + 1, 1, none⟩ (.slice A1 n1 c1) = v5 at *
      have q_a0 := x_a.c0; have q_a1 := x_a.c1; have f_a0 := x_a.fr 0; have f_a1 := x_a.fr 1
      have q_b0 := x_b.c0; have q_b1 := x_b.c1; have f_b0 := x_b.fr 0; have f_b1 := x_b.fr 1
      have q_q0 := x_q.c0; have q_q1 := x_q.c1; have f_q0 := x_q.fr 0; have f_q1 := x_q.fr 1
      have q_r0 := x_r.c0; have q_r1 := x_r.c1; have f_r0 := x_r.fr 0; have f_r1 := x_r.fr 1
      replace x_a := x_a.aside (b' := (ngB (zi false R))) (A' := A2_) (n' := n2_) (c' := c2_) (g := w.heap.size + 1 + 1 + 1) (by omega)
      replace x_b := x_b.aside (b' := (ngB (zi false R))) (A' := A2_) (n' := n2_) (c' := c2_) (g := w.heap.size + 1 + 1 + 1) (by omega)
      replace x_q := x_q.aside (b' := (ngB (zi false R))) (A' := A2_) (n' := n2_) (c' := c2_) (g := w.heap.size + 1 + 1 + 1) (by omega)
      replace h := h.sput (b' := (ngB (zi false R))) (A' := A2_) (n' := n2_) (c' := c2_) x_r
      replace h2 := h2.sput (b' := (ngB (zi false R))) (A' := A2_) (n' := n2_) (c' := c2_) x_r
      replace g1 := g1.sput (b' := (ngB (zi false R))) (A' := A2_) (n' := n2_) (c' := c2_) x_r
      replace g2 := g2.sput (b' := (ngB (zi false R))) (A' := A2_) (n' := n2_) (c' := c2_) x_r
      replace z1 := z1.put (b' := (ngB (zi false R))) (A' := A2_) (n' := n2_) (c' := c2_) x_r
      replace z2 := z2.put (b' := (ngB (zi false R))) (A' := A2_) (n' := n2_) (c' := c2_) x_r
      replace hb := put_below (g := w.heap.size + 1 + 1 + 1) hb (by omega) (.bool (ngB (zi false R))) (.slice A2_ n2_ c2_)
      replace x_r := x_r.put (ngB (zi false R)) A2_ n2_ c2_
      clear q_a0 q_a1 f_a0 f_a1 q_b0 q_b1 f_b0 f_b1 q_q0 q_q1 f_q0 f_q1 q_r0 q_r1 f_r0 f_r1
      generalize (v5.setCell ⟨w.heap.size + 1 + 1 + 1, 0, none⟩ (.bool (ngB (zi false R)))).setCell ⟨w.heap.size + 1 + 1 + 1, 1, none⟩ (.slice A2_ n2_ c2_) = v6 at *
      have q_a0 := x_a.c0; have q_a1 := x_a.c1; have f_a0 := x_a.fr 0; have f_a1 := x_a.fr 1
      have q_b0 := x_b.c0; have q_b1 := x_b.c1; have f_b0 := x_b.fr 0; have f_b1 := x_b.fr 1
      have q_q0 := x_q.c0; have q_q1 := x_q.c1; have f_q0 := x_q.fr 0; have f_q1 := x_q.fr 1
      have q_r0 := x_r.c0; have q_r1 := x_r.c1; have f_r0 := x_r.fr 0; have f_r1 := x_r.fr 1
      refine bodyPost_ret (v := .tuple #[.agg #[.bool (ngB (zi b2 Q)), .slice A1 n1 c1], .agg #[.bool (ngB (zi false R)), .slice A2_ n2_ c2_], .bool true]) (by simp [results, Try.results25, go_sem, q_q0, q_q1, q_r0, q_r1]) rfl ?_
      exact ⟨_, _, _, _, _, _, rfl, z1, z2, hb⟩
  · obtain rfl : b = true := by cases b <;> simp_all
    have hR0 : 0 < N % M := by omega
    have hlt := Nat.mod_lt N hM0
    obtain ⟨e1, e2⟩ := dm_more (b2 := b2) hM0 hR0
    rw [e1, e2, show (!(true == b2)) = !b2 by cases b2 <;> rfl]
    clear e1 e2 hc
    generalize hQ9 : N / M = Q at *
    generalize hR9 : N % M = R at *
    have HQ := Lib.hid hQ9; have HR := Lib.hid hR9; clear hQ9 hR9
    go_enter Try.func25, Try.ntmps25
    go_wp2_with fail
    obtain ⟨hb, x_a, x_b, x_q, x_r⟩ := box4 w true A n c b2 A2 n2 c2 false none 0 0 false none 0 0
    generalize (((w.alloc (.cells #[.bool true, .slice A n c] 24)).alloc (.cells #[.bool b2, .slice A2 n2 c2] 24)).alloc (.cells #[.bool false, .slice none 0 0] 24)).alloc (.cells #[.bool false, .slice none 0 0] 24) = v1 at *
    replace h := h.go hb
    replace h2 := h2.go hb
    have q_a0 := x_a.c0; have q_a1 := x_a.c1; have f_a0 := x_a.fr 0; have f_a1 := x_a.fr 1
    have q_b0 := x_b.c0; have q_b1 := x_b.c1; have f_b0 := x_b.fr 0; have f_b1 := x_b.fr 1
    have q_q0 := x_q.c0; have q_q1 := x_q.c1; have f_q0 := x_q.fr 0; have f_q1 := x_q.fr 1
    have q_r0 := x_r.c0; have q_r1 := x_r.c1; have f_r0 := x_r.fr 0; have f_r1 := x_r.fr 1
    go_wp2_with fail
    with_reducible refine (DivMod_any _ _ _ _ _ _ _ _ _ h h2 (by omega) (by rw [HM.out]; exact hM0)).mono ?_
    rintro e v2 ⟨A1, n1, c1, A2_, n2_, c2_, rfl, g1, g2, hb1⟩
    replace x_a := x_a.keep hb1
    replace x_b := x_b.keep hb1
    replace x_q := x_q.keep hb1
    replace x_r := x_r.keep hb1
    replace h := h.go hb1
    replace h2 := h2.go hb1
    replace hb := bthen hb hb1
    clear hb1
    replace q_a0 := x_a.c0; replace q_a1 := x_a.c1; replace f_a0 := x_a.fr 0; replace f_a1 := x_a.fr 1
    replace q_b0 := x_b.c0; replace q_b1 := x_b.c1; replace f_b0 := x_b.fr 0; replace f_b1 := x_b.fr 1
    replace q_q0 := x_q.c0; replace q_q1 := x_q.c1; replace f_q0 := x_q.fr 0; replace f_q1 := x_q.fr 1
    replace q_r0 := x_r.c0; replace q_r1 := x_r.c1; replace f_r0 := x_r.fr 0; replace f_r1 := x_r.fr 1
    rw [HN.out, HM.out, HQ.out] at g1
    rw [HN.out, HM.out, HR.out] at g2
    have hp := rd_pos g2 hR0
    have z1n := g1.small hQ
    have z2n := g2.small hR
    go_wp2_with fail
    with_reducible refine (inc_any g1 (by omega)).mono ?_
    rintro e v3 ⟨A1, n1, c1, rfl, g1, hb1⟩
    replace x_a := x_a.keep hb1
    replace x_b := x_b.keep hb1
    replace x_q := x_q.keep hb1
    replace x_r := x_r.keep hb1
    replace h := h.go hb1
    replace h2 := h2.go hb1
    skip
    replace g2 := g2.go hb1
    replace hb := bthen hb hb1
    clear hb1
    replace q_a0 := x_a.c0; replace q_a1 := x_a.c1; replace f_a0 := x_a.fr 0; replace f_a1 := x_a.fr 1
    replace q_b0 := x_b.c0; replace q_b1 := x_b.c1; replace f_b0 := x_b.fr 0; replace f_b1 := x_b.fr 1
    replace q_q0 := x_q.c0; replace q_q1 := x_q.c1; replace f_q0 := x_q.fr 0; replace f_q1 := x_q.fr 1
    replace q_r0 := x_r.c0; replace q_r1 := x_r.c1; replace f_r0 := x_r.fr 0; replace f_r1 := x_r.fr 1
    rw [vl_dg Wd2] at g1
    have hr2 := g2
    go_wp2_with fail
    with_reducible refine (Sub_any _ _ _ _ _ _ _ _ _ h2 g2 (by omega) (by rw [HM.out, vl_dg Wd2]; omega)).mono ?_
    rintro e v4 ⟨A2_, n2_, c2_, rfl, g3, hb1⟩
    replace x_a := x_a.keep hb1
    replace x_b := x_b.keep hb1
    replace x_q := x_q.keep hb1
    replace x_r := x_r.keep hb1
    replace h := h.go hb1
    replace h2 := h2.go hb1
    replace g1 := g1.go hb1
    replace g2 := g2.go hb1
    replace hb := bthen hb hb1
    clear hb1
    replace q_a0 := x_a.c0; replace q_a1 := x_a.c1; replace f_a0 := x_a.fr 0; replace f_a1 := x_a.fr 1
    replace q_b0 := x_b.c0; replace q_b1 := x_b.c1; replace f_b0 := x_b.fr 0; replace f_b1 := x_b.fr 1
    replace q_q0 := x_q.c0; replace q_q1 := x_q.c1; replace f_q0 := x_q.fr 0; replace f_q1 := x_q.fr 1
    replace q_r0 := x_r.c0; replace q_r1 := x_r.c1; replace f_r0 := x_r.fr 0; replace f_r1 := x_r.fr 1
    rw [HM.out, vl_dg Wd2] at g3
    clear hr2
    clear g2
    have g2 := g3
    clear g3
    go_wp2_with fail
    with_reducible refine (signed_any (!b2) A1 n1 c1 (Q + 1) _ k g1 hI).mono ?_
    rintro e v5 ⟨rfl, z1, hb1⟩
    replace x_a := x_a.keep hb1
    replace x_b := x_b.keep hb1
    replace x_q := x_q.keep hb1
    replace x_r := x_r.keep hb1
    replace h := h.go hb1
    replace h2 := h2.go hb1
    replace g1 := g1.go hb1
    replace g2 := g2.go hb1
    replace hb := bthen hb hb1
    clear hb1
    replace q_a0 := x_a.c0; replace q_a1 := x_a.c1; replace f_a0 := x_a.fr 0; replace f_a1 := x_a.fr 1
    replace q_b0 := x_b.c0; replace q_b1 := x_b.c1; replace f_b0 := x_b.fr 0; replace f_b1 := x_b.fr 1
    replace q_q0 := x_q.c0; replace q_q1 := x_q.c1; replace f_q0 := x_q.fr 0; replace f_q1 := x_q.fr 1
    replace q_r0 := x_r.c0; replace q_r1 := x_r.c1; replace f_r0 := x_r.fr 0; replace f_r1 := x_r.fr 1
    go_wp2_with fail
    with_reducible refine (signed_any false A2_ n2_ c2_ (M - R) _ k g2 hD).mono ?_
    rintro e v6 ⟨rfl, z2, hb1⟩
    replace x_a := x_a.keep hb1
    replace x_b := x_b.keep hb1
    replace x_q := x_q.keep hb1
    replace x_r := x_r.keep hb1
    replace h := h.go hb1
    replace h2 := h2.go hb1
    replace g1 := g1.go hb1
    replace g2 := g2.go hb1
    replace z1 := z1.keep hb1
    replace hb := bthen hb hb1
    clear hb1
    replace q_a0 := x_a.c0; replace q_a1 := x_a.c1; replace f_a0 := x_a.fr 0; replace f_a1 := x_a.fr 1
    replace q_b0 := x_b.c0; replace q_b1 := x_b.c1; replace f_b0 := x_b.fr 0; replace f_b1 := x_b.fr 1
    replace q_q0 := x_q.c0; replace q_q1 := x_q.c1; replace f_q0 := x_q.fr 0; replace f_q1 := x_q.fr 1
    replace q_r0 := x_r.c0; replace q_r1 := x_r.c1; replace f_r0 := x_r.fr 0; replace f_r1 := x_r.fr 1
    go_wp2
    replace x_a := x_a.aside (b' := (ngB (zi (!b2) (Q + 1)))) (A' := A1) (n' := n1) (c' := c1) (g := w.heap.size + 1 + 1) (by omega)
    replace x_b := x_b.aside (b' := (ngB (zi (!b2) (Q + 1)))) (A' := A1) (n' := n1) (c' := c1) (g := w.heap.size + 1 + 1) (by omega)
    replace x_r := x_r.aside (b' := (ngB (zi (!b2) (Q + 1)))) (A' := A1) (n' := n1) (c' := c1) (g := w.heap.size + 1 + 1) (by omega)
    replace h := h.sput (b' := (ngB (zi (!b2) (Q + 1)))) (A' := A1) (n' := n1) (c' := c1) x_q
    replace h2 := h2.sput (b' := (ngB (zi (!b2) (Q + 1)))) (A' := A1) (n' := n1) (c' := c1) x_q
    replace g1 := g1.sput (b' := (ngB (zi (!b2) (Q + 1)))) (A' := A1) (n' := n1) (c' := c1) x_q
    replace g2 := g2.sput (b' := (ngB (zi (!b2) (Q + 1)))) (A' := A1) (n' := n1) (c' := c1) x_q
    replace z1 := z1.put (b' := (ngB (zi (!b2) (Q + 1)))) (A' := A1) (n' := n1) (c' := c1) x_q
    replace z2 := z2.put (b' := (ngB (zi (!b2) (Q + 1)))) (A' := A1) (n' := n1) (c' := c1) x_q
    replace hb := put_below (g := w.heap.size + 1 + 1) hb (by omega) (.bool (ngB (zi (!b2) (Q + 1)))) (.slice A1 n1 c1)
    replace x_q := x_q.put (ngB (zi (!b2) (Q + 1))) A1 n1 c1
    clear q_a0 q_a1 f_a0 f_a1 q_b0 q_b1 f_b0 f_b1 q_q0 q_q1 f_q0 f_q1 q_r0 q_r1 f_r0 f_r1
    generalize (v6.setCell ⟨w.heap.size + 1 + 1, 0, none⟩ (.bool (ngB (zi (!b2) (Q + 1))))).setCell ⟨w.heap.size + 1 + 1, 1, none⟩ (.slice A1 n1 c1) = v7 at *
    have q_a0 := x_a.c0; have q_a1 := x_a.c1; have f_a0 := x_a.fr 0; have f_a1 := x_a.fr 1
    have q_b0 := x_b.c0; have q_b1 := x_b.c1; have f_b0 := x_b.fr 0; have f_b1 := x_b.fr 1
    have q_q0 := x_q.c0; have q_q1 := x_q.c1; have f_q0 := x_q.fr 0; have f_q1 := x_q.fr 1
    have q_r0 := x_r.c0; have q_r1 := x_r.c1; have f_r0 := x_r.fr 0; have f_r1 := x_r.fr 1
    replace x_a := x_a.aside (b' := (ngB (zi false (M - R)))) (A' := A2_) (n' := n2_) (c' := c2_) (g := w.heap.size + 1 + 1 + 1) (by omega)
    replace x_b := x_b.aside (b' := (ngB (zi false (M - R)))) (A' := A2_) (n' := n2_) (c' := c2_) (g := w.heap.size + 1 + 1 + 1) (by omega)
    replace x_q := x_q.aside (b' := (ngB (zi false (M - R)))) (A' := A2_) (n' := n2_) (c' := c2_) (g := w.heap.size + 1 + 1 + 1) (by omega)
    replace h := h.sput (b' := (ngB (zi false (M - R)))) (A' := A2_) (n' := n2_) (c' := c2_) x_r
    replace h2 := h2.sput (b' := (ngB (zi false (M - R)))) (A' := A2_) (n' := n2_) (c' := c2_) x_r
    replace g1 := g1.sput (b' := (ngB (zi false (M - R)))) (A' := A2_) (n' := n2_) (c' := c2_) x_r
    replace g2 := g2.sput (b' := (ngB (zi false (M - R)))) (A' := A2_) (n' := n2_) (c' := c2_) x_r
    replace z1 := z1.put (b' := (ngB (zi false (M - R)))) (A' := A2_) (n' := n2_) (c' := c2_) x_r
    replace z2 := z2.put (b' := (ngB (zi false (M - R)))) (A' := A2_) (n' := n2_) (c' := c2_) x_r
    replace hb := put_below (g := w.heap.size + 1 + 1 + 1) hb (by omega) (.bool (ngB (zi false (M - R)))) (.slice A2_ n2_ c2_)
    replace x_r := x_r.put (ngB (zi false (M - R))) A2_ n2_ c2_
    clear q_a0 q_a1 f_a0 f_a1 q_b0 q_b1 f_b0 f_b1 q_q0 q_q1 f_q0 f_q1 q_r0 q_r1 f_r0 f_r1
    generalize (v7.setCell ⟨w.heap.size + 1 + 1 + 1, 0, none⟩ (.bool (ngB (zi false (M - R))))).setCell ⟨w.heap.size + 1 + 1 + 1, 1, none⟩ (.slice A2_ n2_ c2_) = v8 at *
    have q_a0 := x_a.c0; have q_a1 := x_a.c1; have f_a0 := x_a.fr 0; have f_a1 := x_a.fr 1
    have q_b0 := x_b.c0; have q_b1 := x_b.c1; have f_b0 := x_b.fr 0; have f_b1 := x_b.fr 1
    have q_q0 := x_q.c0; have q_q1 := x_q.c1; have f_q0 := x_q.fr 0; have f_q1 := x_q.fr 1
    have q_r0 := x_r.c0; have q_r1 := x_r.c1; have f_r0 := x_r.fr 0; have f_r1 := x_r.fr 1
    refine bodyPost_ret (v := .tuple #[.agg #[.bool (ngB (zi (!b2) (Q + 1))), .slice A1 n1 c1], .agg #[.bool (ngB (zi false (M - R))), .slice A2_ n2_ c2_], .bool true]) (by simp [results, Try.results25, go_sem, q_q0, q_q1, q_r0, q_r1]) rfl ?_
    exact ⟨_, _, _, _, _, _, rfl, z1, z2, hb⟩

end Go.Proofs.Ytcoidcbbdibnaaa
