/-
  zed: Sub, Mul, Neg, Abs, Gcd, Shl.
-/
import Derived.Test.YtcoidcbbdibnaaaDoorZadd
namespace Go.Proofs.YtcoidcbbdibnaaaDoor
open Go.RowKit
set_option linter.unusedVariables false

theorem Zr.flip {w : World} {b : Bool} {A : Option Addr} {n c k : Nat} {X : Int} (h : Zr w b A n c X k) : Zr w (!b) A n c (-X) k := by
  obtain ⟨l, h1, rfl, h3⟩ := h
  exact ⟨l, h1, zi_not _ _, h3⟩
theorem Sm.shlq {N j q s : Nat} (h : Sm N j) (h1 : s ≤ 64 * q) : Sm (N * 2 ^ s) (j + q) := by
  unfold Sm at *
  rw [Nat.pow_add, Wd_pow_k q]
  have h2 : 2 ^ s ≤ 2 ^ (64 * q) := Nat.pow_le_pow_right (by omega) h1
  exact Nat.lt_of_lt_of_le (Nat.mul_lt_mul_of_pos_right h (Nat.two_pow_pos _)) (Nat.mul_le_mul_left _ h2)
theorem sc_le2 (i : Int) : sc i ≤ 64 * 128 := by unfold sc; omega
theorem Sm.shl {N j : Nat} (i : Int) (h : Sm N j) : Sm (N * 2 ^ sc i) (j + 128) := h.shlq (sc_le2 i)
theorem zi_mul' (b d : Bool) (N M : Nat) : zi b N * zi d M = zi (!(b == d)) (N * M) := by rw [zi_mul]; rfl
theorem Sm.div {N j : Nat} (d : Nat) (h : Sm N j) : Sm (N / d) j := h.le (Nat.div_le_self _ _)
theorem zi_shl (b : Bool) (N s : Nat) : zi b N * 2 ^ s = zi b (N * 2 ^ s) := by unfold zi; cases b <;> simp [Int.neg_mul]
theorem Sm.one {k : Nat} (h : 1 ≤ k) : Sm 1 k := Nat.lt_of_lt_of_le Wd2 (by have := Nat.pow_le_pow_right (n := Wd) Wd0 h; simpa using this)
theorem Sm.inc {N k : Nat} (h : Sm N k) (hk : 1 ≤ k) : Sm (N + 1) (k + 1) := h.add (Sm.one hk)

set_option maxRecDepth 100000 in
set_option maxHeartbeats 4000000 in
theorem ZSub_any {b b2 : Bool} {A A2 : Option Addr} {n c n2 c2 : Nat} {X Y : Int} {j j2 : Nat} {w : World} (h : Zr w b A n c X j) (h2 : Zr w b2 A2 n2 c2 Y j2) (k : Nat) (hk : j + 1 ≤ k) (hk2 : j2 + 1 ≤ k) (hj : k ≤ 1000000) :
    Calls Tryd.prog 39 #[.agg #[.bool b, .slice A n c], .agg #[.bool b2, .slice A2 n2 c2]] w (OutZ w (X - Y) k) := by
  rw [Int.sub_eq_add_neg]
  go_enter Tryd.func39, Tryd.ntmps39
  go_wp2_with fail
  obtain ⟨hb, x_a, x_b, x_r⟩ := box3 w b A n c b2 A2 n2 c2 false none 0 0
  generalize ((w.alloc (.cells #[.bool b, .slice A n c] 24)).alloc (.cells #[.bool b2, .slice A2 n2 c2] 24)).alloc (.cells #[.bool false, .slice none 0 0] 24) = v1 at *
  replace h := h.keep hb
  replace h2 := h2.keep hb
  have q_a0 := x_a.c0; have q_a1 := x_a.c1; have f_a0 := x_a.fr 0; have f_a1 := x_a.fr 1
  have q_b0 := x_b.c0; have q_b1 := x_b.c1; have f_b0 := x_b.fr 0; have f_b1 := x_b.fr 1
  have q_r0 := x_r.c0; have q_r1 := x_r.c1; have f_r0 := x_r.fr 0; have f_r1 := x_r.fr 1
  go_wp2_with fail
  go_region_held3 (fun w' => w'.cell? ⟨w.heap.size, 0, none⟩ = some (.bool b) ∧ w'.cell? ⟨w.heap.size, 1, none⟩ = some (.slice A n c) ∧ w'.cell? ⟨w.heap.size + 1, 0, none⟩ = some (.bool b2) ∧ w'.cell? ⟨w.heap.size + 1, 1, none⟩ = some (.slice A2 n2 c2))
    (first | exact ⟨x_a.c0, x_a.c1, x_b.c0, x_b.c1⟩ | exact ⟨(x_a.aside (by omega)).c0, (x_a.aside (by omega)).c1, (x_b.aside (by omega)).c0, (x_b.aside (by omega)).c1⟩ | go_keep | (trace_state; fail))
    (first | (go_at_call 68; (with_reducible refine (flip_any b2 A2 n2 c2 _).mono ?_); rintro e v2 ⟨rfl, hb1⟩; replace hb1 := undrew hb1; replace x_a := x_a.keep hb1; replace x_b := x_b.keep hb1; replace x_r := x_r.keep hb1; replace h := h.keep hb1; replace h2 := h2.keep hb1; replace hb := bthen hb hb1; clear hb1; replace q_a0 := x_a.c0; replace q_a1 := x_a.c1; replace f_a0 := x_a.fr 0; replace f_a1 := x_a.fr 1; replace q_b0 := x_b.c0; replace q_b1 := x_b.c1; replace f_b0 := x_b.fr 0; replace f_b1 := x_b.fr 1; replace q_r0 := x_r.c0; replace q_r1 := x_r.c1; replace f_r0 := x_r.fr 0; replace f_r1 := x_r.fr 1) | (go_at_call 52; (with_reducible refine (ZAdd_any h h2.flip k hk hk2 hj).mono ?_); rintro e v3 ⟨A1, n1, c1, rfl, z1, hb1⟩; replace x_a := x_a.keep hb1; replace x_b := x_b.keep hb1; replace x_r := x_r.keep hb1; replace h := h.keep hb1; replace h2 := h2.keep hb1; replace hb := bthen hb hb1; clear hb1; replace q_a0 := x_a.c0; replace q_a1 := x_a.c1; replace f_a0 := x_a.fr 0; replace f_a1 := x_a.fr 1; replace q_b0 := x_b.c0; replace q_b1 := x_b.c1; replace f_b0 := x_b.fr 0; replace f_b1 := x_b.fr 1; replace q_r0 := x_r.c0; replace q_r1 := x_r.c1; replace f_r0 := x_r.fr 0; replace f_r1 := x_r.fr 1))
  go_wp2
  replace x_a := x_a.aside (b' := (ngB (X + -Y))) (A' := A1) (n' := n1) (c' := c1) (g := w.heap.size + 1 + 1) (by omega)
  replace x_b := x_b.aside (b' := (ngB (X + -Y))) (A' := A1) (n' := n1) (c' := c1) (g := w.heap.size + 1 + 1) (by omega)
  replace h := h.put (b' := (ngB (X + -Y))) (A' := A1) (n' := n1) (c' := c1) x_r
  replace h2 := h2.put (b' := (ngB (X + -Y))) (A' := A1) (n' := n1) (c' := c1) x_r
  replace z1 := z1.put (b' := (ngB (X + -Y))) (A' := A1) (n' := n1) (c' := c1) x_r
  replace hb := put_below (g := w.heap.size + 1 + 1) hb (by omega) (.bool (ngB (X + -Y))) (.slice A1 n1 c1)
  replace x_r := x_r.put (ngB (X + -Y)) A1 n1 c1
  clear q_a0 q_a1 f_a0 f_a1 q_b0 q_b1 f_b0 f_b1 q_r0 q_r1 f_r0 f_r1
  generalize (v3.setCell ⟨w.heap.size + 1 + 1, 0, none⟩ (.bool (ngB (X + -Y)))).setCell ⟨w.heap.size + 1 + 1, 1, none⟩ (.slice A1 n1 c1) = v4 at *
  have q_a0 := x_a.c0; have q_a1 := x_a.c1; have f_a0 := x_a.fr 0; have f_a1 := x_a.fr 1
  have q_b0 := x_b.c0; have q_b1 := x_b.c1; have f_b0 := x_b.fr 0; have f_b1 := x_b.fr 1
  have q_r0 := x_r.c0; have q_r1 := x_r.c1; have f_r0 := x_r.fr 0; have f_r1 := x_r.fr 1
  refine bodyPost_ret (v := .agg #[.bool (ngB (X + -Y)), .slice A1 n1 c1]) (by simp [results, Tryd.results39, go_sem, q_r0, q_r1]) rfl ?_
  exact ⟨_, _, _, rfl, z1, hb⟩

set_option maxRecDepth 100000 in
set_option maxHeartbeats 4000000 in
theorem ZMul_any {b b2 : Bool} {A A2 : Option Addr} {n c n2 c2 : Nat} {X Y : Int} {j j2 : Nat} {w : World} (h : Zr w b A n c X j) (h2 : Zr w b2 A2 n2 c2 Y j2) (k : Nat) (hk : j + j2 ≤ k) (hj : k ≤ 1000000) :
    Calls Tryd.prog 57 #[.agg #[.bool b, .slice A n c], .agg #[.bool b2, .slice A2 n2 c2]] w (OutZ w (X * Y) k) := by
  obtain ⟨l, h, rfl, hn⟩ := h
  obtain ⟨m, h2, rfl, hn2⟩ := h2
  have hs := Sm.of h hn
  have hs2 := Sm.of h2 hn2
  generalize hN : vl Wd l = N at *
  have HN := Lib.hid hN; clear hN
  generalize hM : vl Wd m = M at *
  have HM := Lib.hid hM; clear hM
  rw [zi_mul']
  have hs3 : Sm (N * M) k := (hs.mul hs2).mono hk
  clear hs hs2
  go_enter Tryd.func57, Tryd.ntmps57
  go_wp2_with fail
  obtain ⟨hb, x_a, x_b, x_r⟩ := box3 w b A n c b2 A2 n2 c2 false none 0 0
  generalize ((w.alloc (.cells #[.bool b, .slice A n c] 24)).alloc (.cells #[.bool b2, .slice A2 n2 c2] 24)).alloc (.cells #[.bool false, .slice none 0 0] 24) = v1 at *
  replace h := h.go hb
  replace h2 := h2.go hb
  have q_a0 := x_a.c0; have q_a1 := x_a.c1; have f_a0 := x_a.fr 0; have f_a1 := x_a.fr 1
  have q_b0 := x_b.c0; have q_b1 := x_b.c1; have f_b0 := x_b.fr 0; have f_b1 := x_b.fr 1
  have q_r0 := x_r.c0; have q_r1 := x_r.c1; have f_r0 := x_r.fr 0; have f_r1 := x_r.fr 1
  go_wp2_with fail
  go_region_held3 (fun w' => w'.cell? ⟨w.heap.size, 0, none⟩ = some (.bool b) ∧ w'.cell? ⟨w.heap.size, 1, none⟩ = some (.slice A n c) ∧ w'.cell? ⟨w.heap.size + 1, 0, none⟩ = some (.bool b2) ∧ w'.cell? ⟨w.heap.size + 1, 1, none⟩ = some (.slice A2 n2 c2))
    (first | exact ⟨x_a.c0, x_a.c1, x_b.c0, x_b.c1⟩ | exact ⟨(x_a.aside (by omega)).c0, (x_a.aside (by omega)).c1, (x_b.aside (by omega)).c0, (x_b.aside (by omega)).c1⟩ | go_keep | (trace_state; fail))
    (first | (go_at_call 86; (with_reducible refine (Mul_any _ _ _ _ _ _ _ _ _ h.drw h2.drw (by omega) (by omega)).mono ?_); rintro e v2 ⟨A1, n1, c1, rfl, g1, hb1⟩; replace hb1 := undrew hb1; replace x_a := x_a.keep hb1; replace x_b := x_b.keep hb1; replace x_r := x_r.keep hb1; replace h := h.go hb1; replace h2 := h2.go hb1; replace hb := bthen hb hb1; clear hb1; replace q_a0 := x_a.c0; replace q_a1 := x_a.c1; replace f_a0 := x_a.fr 0; replace f_a1 := x_a.fr 1; replace q_b0 := x_b.c0; replace q_b1 := x_b.c1; replace f_b0 := x_b.fr 0; replace f_b1 := x_b.fr 1; replace q_r0 := x_r.c0; replace q_r1 := x_r.c1; replace f_r0 := x_r.fr 0; replace f_r1 := x_r.fr 1; rw [HN.out, HM.out] at g1) | (go_at_call 66; (with_reducible refine (signed_any (!(b == b2)) A1 n1 c1 (N * M) _ k g1 hs3).mono ?_); rintro e v3 ⟨rfl, z1, hb1⟩; replace x_a := x_a.keep hb1; replace x_b := x_b.keep hb1; replace x_r := x_r.keep hb1; replace h := h.go hb1; replace h2 := h2.go hb1; replace g1 := g1.go hb1; replace hb := bthen hb hb1; clear hb1; replace q_a0 := x_a.c0; replace q_a1 := x_a.c1; replace f_a0 := x_a.fr 0; replace f_a1 := x_a.fr 1; replace q_b0 := x_b.c0; replace q_b1 := x_b.c1; replace f_b0 := x_b.fr 0; replace f_b1 := x_b.fr 1; replace q_r0 := x_r.c0; replace q_r1 := x_r.c1; replace f_r0 := x_r.fr 0; replace f_r1 := x_r.fr 1))
  go_wp2
  replace x_a := x_a.aside (b' := (ngB (zi (!(b == b2)) (N * M)))) (A' := A1) (n' := n1) (c' := c1) (g := w.heap.size + 1 + 1) (by omega)
  replace x_b := x_b.aside (b' := (ngB (zi (!(b == b2)) (N * M)))) (A' := A1) (n' := n1) (c' := c1) (g := w.heap.size + 1 + 1) (by omega)
  replace h := h.sput (b' := (ngB (zi (!(b == b2)) (N * M)))) (A' := A1) (n' := n1) (c' := c1) x_r
  replace h2 := h2.sput (b' := (ngB (zi (!(b == b2)) (N * M)))) (A' := A1) (n' := n1) (c' := c1) x_r
  replace g1 := g1.sput (b' := (ngB (zi (!(b == b2)) (N * M)))) (A' := A1) (n' := n1) (c' := c1) x_r
  replace z1 := z1.put (b' := (ngB (zi (!(b == b2)) (N * M)))) (A' := A1) (n' := n1) (c' := c1) x_r
  replace hb := put_below (g := w.heap.size + 1 + 1) hb (by omega) (.bool (ngB (zi (!(b == b2)) (N * M)))) (.slice A1 n1 c1)
  replace x_r := x_r.put (ngB (zi (!(b == b2)) (N * M))) A1 n1 c1
  clear q_a0 q_a1 f_a0 f_a1 q_b0 q_b1 f_b0 f_b1 q_r0 q_r1 f_r0 f_r1
  generalize (v3.setCell ⟨w.heap.size + 1 + 1, 0, none⟩ (.bool (ngB (zi (!(b == b2)) (N * M))))).setCell ⟨w.heap.size + 1 + 1, 1, none⟩ (.slice A1 n1 c1) = v4 at *
  have q_a0 := x_a.c0; have q_a1 := x_a.c1; have f_a0 := x_a.fr 0; have f_a1 := x_a.fr 1
  have q_b0 := x_b.c0; have q_b1 := x_b.c1; have f_b0 := x_b.fr 0; have f_b1 := x_b.fr 1
  have q_r0 := x_r.c0; have q_r1 := x_r.c1; have f_r0 := x_r.fr 0; have f_r1 := x_r.fr 1
  refine bodyPost_ret (v := .agg #[.bool (ngB (zi (!(b == b2)) (N * M))), .slice A1 n1 c1]) (by simp [results, Tryd.results57, go_sem, q_r0, q_r1]) rfl ?_
  exact ⟨_, _, _, rfl, z1, hb⟩

set_option maxRecDepth 100000 in
set_option maxHeartbeats 1000000 in
theorem ZNeg_any {b : Bool} {A : Option Addr} {n c : Nat} {X : Int} {j : Nat} {w : World} (h : Zr w b A n c X j) (k : Nat) (hk : j ≤ k) :
    Calls Tryd.prog 59 #[.agg #[.bool b, .slice A n c]] w (OutZ w (-X) k) := by
  go_enter Tryd.func59, Tryd.ntmps59
  go_wp2_with fail
  obtain ⟨hb, x_a, x_r⟩ := box2 w b A n c false none 0 0
  generalize (w.alloc (.cells #[.bool b, .slice A n c] 24)).alloc (.cells #[.bool false, .slice none 0 0] 24) = v1 at *
  replace h := h.keep hb
  have q_a0 := x_a.c0; have q_a1 := x_a.c1; have f_a0 := x_a.fr 0; have f_a1 := x_a.fr 1
  have q_r0 := x_r.c0; have q_r1 := x_r.c1; have f_r0 := x_r.fr 0; have f_r1 := x_r.fr 1
  go_wp2_with fail
  refine (flip_any b A n c _).mono ?_
  rintro e v2 ⟨rfl, hb1⟩
  replace x_a := x_a.keep hb1
  replace x_r := x_r.keep hb1
  replace h := h.keep hb1
  replace hb := bthen hb hb1
  clear hb1
  replace q_a0 := x_a.c0; replace q_a1 := x_a.c1; replace f_a0 := x_a.fr 0; replace f_a1 := x_a.fr 1
  replace q_r0 := x_r.c0; replace q_r1 := x_r.c1; replace f_r0 := x_r.fr 0; replace f_r1 := x_r.fr 1
  go_wp2_with fail
  refine (ZNorm_any h.flip k hk).mono ?_
  rintro e v3 ⟨A1, n1, c1, rfl, z1, hb1⟩
  replace x_a := x_a.keep hb1
  replace x_r := x_r.keep hb1
  replace h := h.keep hb1
  replace hb := bthen hb hb1
  clear hb1
  replace q_a0 := x_a.c0; replace q_a1 := x_a.c1; replace f_a0 := x_a.fr 0; replace f_a1 := x_a.fr 1
  replace q_r0 := x_r.c0; replace q_r1 := x_r.c1; replace f_r0 := x_r.fr 0; replace f_r1 := x_r.fr 1
  go_wp2
  replace x_a := x_a.aside (b' := (ngB (-X))) (A' := A1) (n' := n1) (c' := c1) (g := w.heap.size + 1) (by omega)
  replace h := h.put (b' := (ngB (-X))) (A' := A1) (n' := n1) (c' := c1) x_r
  replace z1 := z1.put (b' := (ngB (-X))) (A' := A1) (n' := n1) (c' := c1) x_r
  replace hb := put_below (g := w.heap.size + 1) hb (by omega) (.bool (ngB (-X))) (.slice A1 n1 c1)
  replace x_r := x_r.put (ngB (-X)) A1 n1 c1
  clear q_a0 q_a1 f_a0 f_a1 q_r0 q_r1 f_r0 f_r1
  generalize (v3.setCell ⟨w.heap.size + 1, 0, none⟩ (.bool (ngB (-X)))).setCell ⟨w.heap.size + 1, 1, none⟩ (.slice A1 n1 c1) = v4 at *
  have q_a0 := x_a.c0; have q_a1 := x_a.c1; have f_a0 := x_a.fr 0; have f_a1 := x_a.fr 1
  have q_r0 := x_r.c0; have q_r1 := x_r.c1; have f_r0 := x_r.fr 0; have f_r1 := x_r.fr 1
  refine bodyPost_ret (v := .agg #[.bool (ngB (-X)), .slice A1 n1 c1]) (by simp [results, Tryd.results59, go_sem, q_r0, q_r1]) rfl ?_
  exact ⟨_, _, _, rfl, z1, hb⟩

theorem Sm.gcd {N M k : Nat} (h : Sm N k) (h2 : Sm M k) : Sm (Nat.gcd N M) k := by
  rcases Nat.eq_zero_or_pos N with h0 | h0
  · subst h0; rw [Nat.gcd_zero_left]; exact h2
  · exact h.le (Nat.gcd_le_left _ h0)
set_option maxRecDepth 100000 in
set_option maxHeartbeats 2000000 in
theorem ZShl_any {b : Bool} {A : Option Addr} {n c : Nat} {X : Int} {j : Nat} {w : World} (h : Zr w b A n c X j) (i : Int) (k : Nat) (hk : j + 128 ≤ k) (hj : k ≤ 1000000) :
    Calls Tryd.prog 38 #[.agg #[.bool b, .slice A n c], .int .i64 i] w (OutZ w (X * 2 ^ sc i) k) := by
  obtain ⟨l, h, rfl, hn⟩ := h
  have hs := Sm.of h hn
  generalize hN : vl Wd l = N at *
  have HN := Lib.hid hN; clear hN
  rw [zi_shl]
  have hs3 : Sm (N * 2 ^ sc i) k := (hs.shl i).mono hk
  clear hs
  go_enter Tryd.func38, Tryd.ntmps38
  go_wp2_with fail
  obtain ⟨hb, x_a, x_r⟩ := box2 w b A n c false none 0 0
  generalize (w.alloc (.cells #[.bool b, .slice A n c] 24)).alloc (.cells #[.bool false, .slice none 0 0] 24) = v1 at *
  replace h := h.go hb
  have q_a0 := x_a.c0; have q_a1 := x_a.c1; have f_a0 := x_a.fr 0; have f_a1 := x_a.fr 1
  have q_r0 := x_r.c0; have q_r1 := x_r.c1; have f_r0 := x_r.fr 0; have f_r1 := x_r.fr 1
  go_wp2_with fail
  go_region_held3 (fun w' => w'.cell? ⟨w.heap.size, 0, none⟩ = some (.bool b) ∧ w'.cell? ⟨w.heap.size, 1, none⟩ = some (.slice A n c))
    (first | exact ⟨x_a.c0, x_a.c1⟩ | exact ⟨(x_a.aside (by omega)).c0, (x_a.aside (by omega)).c1⟩ | go_keep | (trace_state; fail))
    (first | (go_at_call 67; (with_reducible refine (Shl_any _ _ _ _ i _ h.drw (by omega)).mono ?_); rintro e v2 ⟨A1, n1, c1, rfl, g1, hb1⟩; replace hb1 := undrew hb1; replace x_a := x_a.keep hb1; replace x_r := x_r.keep hb1; replace h := h.go hb1; replace hb := bthen hb hb1; clear hb1; replace q_a0 := x_a.c0; replace q_a1 := x_a.c1; replace f_a0 := x_a.fr 0; replace f_a1 := x_a.fr 1; replace q_r0 := x_r.c0; replace q_r1 := x_r.c1; replace f_r0 := x_r.fr 0; replace f_r1 := x_r.fr 1; rw [HN.out] at g1) | (go_at_call 66; (with_reducible refine (signed_any b A1 n1 c1 (N * 2 ^ sc i) _ k g1 hs3).mono ?_); rintro e v3 ⟨rfl, z1, hb1⟩; replace x_a := x_a.keep hb1; replace x_r := x_r.keep hb1; replace h := h.go hb1; replace g1 := g1.go hb1; replace hb := bthen hb hb1; clear hb1; replace q_a0 := x_a.c0; replace q_a1 := x_a.c1; replace f_a0 := x_a.fr 0; replace f_a1 := x_a.fr 1; replace q_r0 := x_r.c0; replace q_r1 := x_r.c1; replace f_r0 := x_r.fr 0; replace f_r1 := x_r.fr 1))
  go_wp2
  replace x_a := x_a.aside (b' := (ngB (zi b (N * 2 ^ sc i)))) (A' := A1) (n' := n1) (c' := c1) (g := w.heap.size + 1) (by omega)
  replace h := h.sput (b' := (ngB (zi b (N * 2 ^ sc i)))) (A' := A1) (n' := n1) (c' := c1) x_r
  replace g1 := g1.sput (b' := (ngB (zi b (N * 2 ^ sc i)))) (A' := A1) (n' := n1) (c' := c1) x_r
  replace z1 := z1.put (b' := (ngB (zi b (N * 2 ^ sc i)))) (A' := A1) (n' := n1) (c' := c1) x_r
  replace hb := put_below (g := w.heap.size + 1) hb (by omega) (.bool (ngB (zi b (N * 2 ^ sc i)))) (.slice A1 n1 c1)
  replace x_r := x_r.put (ngB (zi b (N * 2 ^ sc i))) A1 n1 c1
  clear q_a0 q_a1 f_a0 f_a1 q_r0 q_r1 f_r0 f_r1
  generalize (v3.setCell ⟨w.heap.size + 1, 0, none⟩ (.bool (ngB (zi b (N * 2 ^ sc i))))).setCell ⟨w.heap.size + 1, 1, none⟩ (.slice A1 n1 c1) = v4 at *
  have q_a0 := x_a.c0; have q_a1 := x_a.c1; have f_a0 := x_a.fr 0; have f_a1 := x_a.fr 1
  have q_r0 := x_r.c0; have q_r1 := x_r.c1; have f_r0 := x_r.fr 0; have f_r1 := x_r.fr 1
  refine bodyPost_ret (v := .agg #[.bool (ngB (zi b (N * 2 ^ sc i))), .slice A1 n1 c1]) (by simp [results, Tryd.results38, go_sem, q_r0, q_r1]) rfl ?_
  exact ⟨_, _, _, rfl, z1, hb⟩

set_option maxHeartbeats 400000 in
theorem inc_any {A : Option Addr} {n c : Nat} {l : List Int} {w : World} (h : Rd w w.heap.size A n c l) (hn : n ≤ 1000000) :
    Calls Tryd.prog 98 #[.slice A n c] w (Out w (vl Wd l + 1)) := by
  have hb0 := below_alloc w (.cells #[.int .u64 1] 31)
  have h1 := lay1 w 1 (lm_small (by omega) (by omega))
  replace h := h.go hb0
  go_enter Tryd.func98, Tryd.ntmps98
  go_wp2_with fail
  refine (Add_any _ _ _ _ _ _ _ _ _ h h1 (by omega) (by omega)).mono ?_
  rintro e w1 ⟨A1, n1, c1, rfl, g1, hb1⟩
  rw [vl_one, show (1 : Int).toNat = 1 from rfl] at g1
  go_wp2
  go_ret
  exact ⟨_, _, _, rfl, g1, bthen hb0 hb1⟩

end Go.Proofs.YtcoidcbbdibnaaaDoor
