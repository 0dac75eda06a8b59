/-
 the laws of ball: made, cut, right.
-/
import Derived.Test.YtiigacddjihokaaGreatDoorLlim
import Derived.Test.YtiigacddjihokaaGreatDoorLint
import Derived.Laws.BitsLemmas
namespace Go.Proofs.YtiigacddjihokaaGreatDoor
open Go.RowKit
set_option linter.unusedVariables false

section
variable {w : World} {g h n c m d : Nat} {b p : Bool} {A B : Option Addr} {e : Int}
end
/-- A ball handed back. -/
def OutB (w : World) (X Y q : Int) (k : Nat) (e : Ending) (w' : World) : Prop := ∃ A n c A2 n2 c2, e = .returned (.agg #[.bool (ngB X), .slice A n c, .bool (ngB Y), .slice A2 n2 c2, .int .i64 q]) ∧ Zn w' A n c X k ∧ Zn w' A2 n2 c2 Y k ∧ Below w.heap.size w w'
/-- What cut hands back: signs and places as they were, at most k limbs of its own each. -/
def BcPost (w : World) (b : Bool) (l : List Int) (b2 : Bool) (l2 : List Int) (q : Int) (k : Nat) (e : Ending) (w' : World) : Prop := ∃ A n c A2 n2 c2, e = .returned (.agg #[.bool b, .slice A n c, .bool b2, .slice A2 n2 c2, .int .i64 q]) ∧ Rd w' w'.heap.size A n c (l.take k) ∧ n ≤ k ∧ Rd w' w'.heap.size A2 n2 c2 (l2.take k) ∧ n2 ≤ k ∧ Below w.heap.size w w'
set_option maxRecDepth 100000 in
set_option maxHeartbeats 2000000 in
theorem made_any (m k q : Int) {w : World} (h0 : -9223372036854775808 ≤ m ∧ m ≤ 9223372036854775807) (h1 : -9223372036854775808 ≤ k ∧ k ≤ 9223372036854775807) :
  Calls Tryz.prog 38 #[.int .i64 m, .int .i64 k, .int .i64 q] w (OutB w m k q 1) := by
 go_enter Tryz.func38, Tryz.ntmps38
 go_wp2_with fail
 have x_r : Lx (w.alloc (.cells #[.bool false, .slice none 0 0, .bool false, .slice none 0 0, .int .i64 0] 26)) (w.heap.size) false none 0 0 false none 0 0 0 := by have := Lx.new w false none 0 0 false none 0 0 0; simpa using this
 have hb : Below w.heap.size w (w.alloc (.cells #[.bool false, .slice none 0 0, .bool false, .slice none 0 0, .int .i64 0] 26)) := (Below.alloc (Below.refl w.heap.size w) (by simp) (.cells #[.bool false, .slice none 0 0, .bool false, .slice none 0 0, .int .i64 0] 26))
 generalize w.alloc (.cells #[.bool false, .slice none 0 0, .bool false, .slice none 0 0, .int .i64 0] 26) = v1 at *
 have q_r0 := x_r.c0; have f_r0 := x_r.fr 0; have q_r1 := x_r.c1; have f_r1 := x_r.fr 1; have q_r2 := x_r.c2; have f_r2 := x_r.fr 2; have q_r3 := x_r.c3; have f_r3 := x_r.fr 3; have q_r4 := x_r.c4; have f_r4 := x_r.fr 4
 go_wp2_with fail
 with_reducible refine (ZOf_any m h0.1 h0.2).mono ?_
 rintro e v2 ⟨A1, n1, c1, rfl, z1, hb1⟩
 replace x_r := x_r.keep hb1
 replace hb := bthen hb hb1
 clear hb1
 replace q_r0 := x_r.c0; replace f_r0 := x_r.fr 0; replace q_r1 := x_r.c1; replace f_r1 := x_r.fr 1; replace q_r2 := x_r.c2; replace f_r2 := x_r.fr 2; replace q_r3 := x_r.c3; replace f_r3 := x_r.fr 3; replace q_r4 := x_r.c4; replace f_r4 := x_r.fr 4
 go_wp2_with fail
 with_reducible refine (ZOf_any k h1.1 h1.2).mono ?_
 rintro e v3 ⟨A2, n2, c2, rfl, z2, hb1⟩
 replace x_r := x_r.keep hb1
 replace z1 := z1.keep hb1
 replace hb := bthen hb hb1
 clear hb1
 replace q_r0 := x_r.c0; replace f_r0 := x_r.fr 0; replace q_r1 := x_r.c1; replace f_r1 := x_r.fr 1; replace q_r2 := x_r.c2; replace f_r2 := x_r.fr 2; replace q_r3 := x_r.c3; replace f_r3 := x_r.fr 3; replace q_r4 := x_r.c4; replace f_r4 := x_r.fr 4
 go_wp2
 replace z1 := z1.putL (b' := (ngB m)) (A' := A1) (n' := n1) (c' := c1) (p' := (ngB k)) (B' := A2) (m' := n2) (d' := c2) (e' := q) x_r
 replace z2 := z2.putL (b' := (ngB m)) (A' := A1) (n' := n1) (c' := c1) (p' := (ngB k)) (B' := A2) (m' := n2) (d' := c2) (e' := q) x_r
 replace hb := put_belowL (g := w.heap.size) hb (by omega) (.bool (ngB m)) (.slice A1 n1 c1) (.bool (ngB k)) (.slice A2 n2 c2) (.int .i64 q)
 replace x_r := x_r.put (ngB m) A1 n1 c1 (ngB k) A2 n2 c2 q
 clear q_r0 f_r0 q_r1 f_r1 q_r2 f_r2 q_r3 f_r3 q_r4 f_r4
 generalize ((((v3.setCell ⟨w.heap.size, 0, none⟩ (.bool (ngB m))).setCell ⟨w.heap.size, 1, none⟩ (.slice A1 n1 c1)).setCell ⟨w.heap.size, 2, none⟩ (.bool (ngB k))).setCell ⟨w.heap.size, 3, none⟩ (.slice A2 n2 c2)).setCell ⟨w.heap.size, 4, none⟩ (.int .i64 q) = v4 at *
 have q_r0 := x_r.c0; have f_r0 := x_r.fr 0; have q_r1 := x_r.c1; have f_r1 := x_r.fr 1; have q_r2 := x_r.c2; have f_r2 := x_r.fr 2; have q_r3 := x_r.c3; have f_r3 := x_r.fr 3; have q_r4 := x_r.c4; have f_r4 := x_r.fr 4
 refine bodyPost_ret (v := .agg #[.bool (ngB m), .slice A1 n1 c1, .bool (ngB k), .slice A2 n2 c2, .int .i64 q]) (by simp [results, Tryz.results38, go_sem, q_r0, q_r1, q_r2, q_r3, q_r4]) rfl ?_
 exact ⟨_, _, _, _, _, _, rfl, z1, z2, hb⟩

set_option maxRecDepth 100000 in
set_option maxHeartbeats 2000000 in
theorem Lcut_at {b b2 : Bool} {A A2 : Option Addr} {n c n2 c2 : Nat} {l l2 : List Int} {q : Int} {w : World} (h : Rd w w.heap.size A n c l) (h2 : Rd w w.heap.size A2 n2 c2 l2) (k : Nat) (K : Int) (hK : K = (k : Int)) (hk : k ≤ 1000) :
  Calls Tryz.prog 8 #[.agg #[.bool b, .slice A n c, .bool b2, .slice A2 n2 c2, .int .i64 q], .int .i64 K] w (BcPost w b l b2 l2 q k) := by
 have HK := Lib.hid hK; clear hK
 go_enter Tryz.func8, Tryz.ntmps8
 go_wp2_with fail
 have x_a : Lx (w.alloc (.cells #[.bool b, .slice A n c, .bool b2, .slice A2 n2 c2, .int .i64 q] 26)) (w.heap.size) b A n c b2 A2 n2 c2 q := by have := Lx.new w b A n c b2 A2 n2 c2 q; simpa using this
 replace x_a := x_a.alloc (.cells #[.bool false, .slice none 0 0, .bool false, .slice none 0 0, .int .i64 0] 26)
 have x_r : Lx ((w.alloc (.cells #[.bool b, .slice A n c, .bool b2, .slice A2 n2 c2, .int .i64 q] 26)).alloc (.cells #[.bool false, .slice none 0 0, .bool false, .slice none 0 0, .int .i64 0] 26)) (w.heap.size + 1) false none 0 0 false none 0 0 0 := by have := Lx.new (w.alloc (.cells #[.bool b, .slice A n c, .bool b2, .slice A2 n2 c2, .int .i64 q] 26)) false none 0 0 false none 0 0 0; simpa using this
 have hb : Below w.heap.size w ((w.alloc (.cells #[.bool b, .slice A n c, .bool b2, .slice A2 n2 c2, .int .i64 q] 26)).alloc (.cells #[.bool false, .slice none 0 0, .bool false, .slice none 0 0, .int .i64 0] 26)) := (Below.alloc (Below.alloc (Below.refl w.heap.size w) (by simp) (.cells #[.bool b, .slice A n c, .bool b2, .slice A2 n2 c2, .int .i64 q] 26)) (by simp) (.cells #[.bool false, .slice none 0 0, .bool false, .slice none 0 0, .int .i64 0] 26))
 generalize (w.alloc (.cells #[.bool b, .slice A n c, .bool b2, .slice A2 n2 c2, .int .i64 q] 26)).alloc (.cells #[.bool false, .slice none 0 0, .bool false, .slice none 0 0, .int .i64 0] 26) = v1 at *
 replace h := h.go hb
 replace h2 := h2.go hb
 have q_a0 := x_a.c0; have f_a0 := x_a.fr 0; have q_a1 := x_a.c1; have f_a1 := x_a.fr 1; have q_a2 := x_a.c2; have f_a2 := x_a.fr 2; have q_a3 := x_a.c3; have f_a3 := x_a.fr 3; have q_a4 := x_a.c4; have f_a4 := x_a.fr 4
 have q_r0 := x_r.c0; have f_r0 := x_r.fr 0; have q_r1 := x_r.c1; have f_r1 := x_r.fr 1; have q_r2 := x_r.c2; have f_r2 := x_r.fr 2; have q_r3 := x_r.c3; have f_r3 := x_r.fr 3; have q_r4 := x_r.c4; have f_r4 := x_r.fr 4
 go_wp2_with fail
 go_region_held3 (fun w' => w'.cell? ⟨w.heap.size, 0, none⟩ = some (.bool b) ∧ w'.cell? ⟨w.heap.size, 1, none⟩ = some (.slice A n c) ∧ w'.cell? ⟨w.heap.size, 2, none⟩ = some (.bool b2) ∧ w'.cell? ⟨w.heap.size, 3, none⟩ = some (.slice A2 n2 c2) ∧ w'.cell? ⟨w.heap.size, 4, none⟩ = some (.int .i64 q))
  (first | (with_reducible exact ⟨x_a.c0, x_a.c1, x_a.c2, x_a.c3, x_a.c4⟩) | (with_reducible exact ⟨(x_a.aside (by omega)).c0, (x_a.aside (by omega)).c1, (x_a.aside (by omega)).c2, (x_a.aside (by omega)).c3, (x_a.aside (by omega)).c4⟩) | (with_reducible exact ⟨((x_a.aside (by omega)).aside (by omega)).c0, ((x_a.aside (by omega)).aside (by omega)).c1, ((x_a.aside (by omega)).aside (by omega)).c2, ((x_a.aside (by omega)).aside (by omega)).c3, ((x_a.aside (by omega)).aside (by omega)).c4⟩) | (with_reducible exact ⟨(x_a.asideD (by omega)).c0, (x_a.asideD (by omega)).c1, (x_a.asideD (by omega)).c2, (x_a.asideD (by omega)).c3, (x_a.asideD (by omega)).c4⟩) | (with_reducible exact ⟨((x_a.asideD (by omega)).asideD (by omega)).c0, ((x_a.asideD (by omega)).asideD (by omega)).c1, ((x_a.asideD (by omega)).asideD (by omega)).c2, ((x_a.asideD (by omega)).asideD (by omega)).c3, ((x_a.asideD (by omega)).asideD (by omega)).c4⟩) | (with_reducible exact ⟨(x_a.asideL (by omega)).c0, (x_a.asideL (by omega)).c1, (x_a.asideL (by omega)).c2, (x_a.asideL (by omega)).c3, (x_a.asideL (by omega)).c4⟩) | (with_reducible exact ⟨((x_a.asideL (by omega)).asideL (by omega)).c0, ((x_a.asideL (by omega)).asideL (by omega)).c1, ((x_a.asideL (by omega)).asideL (by omega)).c2, ((x_a.asideL (by omega)).asideL (by omega)).c3, ((x_a.asideL (by omega)).asideL (by omega)).c4⟩) | go_keep)
  (first | (go_at_call 9; (with_reducible refine (Lim_at h.drw k K HK.out hk).mono ?_); rintro e v2 ⟨A5, n5, c5, rfl, z5, k5, hb1⟩; replace hb1 := undrew hb1; replace x_a := x_a.keep hb1; replace x_r := x_r.keep hb1; replace h := h.go hb1; replace h2 := h2.go hb1; replace hb := bthen hb hb1; clear hb1; replace q_a0 := x_a.c0; replace f_a0 := x_a.fr 0; replace q_a1 := x_a.c1; replace f_a1 := x_a.fr 1; replace q_a2 := x_a.c2; replace f_a2 := x_a.fr 2; replace q_a3 := x_a.c3; replace f_a3 := x_a.fr 3; replace q_a4 := x_a.c4; replace f_a4 := x_a.fr 4; replace q_r0 := x_r.c0; replace f_r0 := x_r.fr 0; replace q_r1 := x_r.c1; replace f_r1 := x_r.fr 1; replace q_r2 := x_r.c2; replace f_r2 := x_r.fr 2; replace q_r3 := x_r.c3; replace f_r3 := x_r.fr 3; replace q_r4 := x_r.c4; replace f_r4 := x_r.fr 4) | (go_at_call 9; (with_reducible refine (Lim_at h2 k K HK.out hk).mono ?_); rintro e v3 ⟨A6, n6, c6, rfl, z6, k6, hb1⟩; replace x_a := x_a.keep hb1; replace x_r := x_r.keep hb1; replace h := h.go hb1; replace h2 := h2.go hb1; replace z5 := z5.go hb1; replace hb := bthen hb hb1; clear hb1; replace q_a0 := x_a.c0; replace f_a0 := x_a.fr 0; replace q_a1 := x_a.c1; replace f_a1 := x_a.fr 1; replace q_a2 := x_a.c2; replace f_a2 := x_a.fr 2; replace q_a3 := x_a.c3; replace f_a3 := x_a.fr 3; replace q_a4 := x_a.c4; replace f_a4 := x_a.fr 4; replace q_r0 := x_r.c0; replace f_r0 := x_r.fr 0; replace q_r1 := x_r.c1; replace f_r1 := x_r.fr 1; replace q_r2 := x_r.c2; replace f_r2 := x_r.fr 2; replace q_r3 := x_r.c3; replace f_r3 := x_r.fr 3; replace q_r4 := x_r.c4; replace f_r4 := x_r.fr 4))
 go_wp2
 replace x_a := x_a.asideL (b' := b) (A' := A5) (n' := n5) (c' := c5) (p' := b2) (B' := A6) (m' := n6) (d' := c6) (e' := q) (g := w.heap.size + 1) (by omega)
 replace h := h.sputL (b' := b) (A' := A5) (n' := n5) (c' := c5) (p' := b2) (B' := A6) (m' := n6) (d' := c6) (e' := q) x_r
 replace h2 := h2.sputL (b' := b) (A' := A5) (n' := n5) (c' := c5) (p' := b2) (B' := A6) (m' := n6) (d' := c6) (e' := q) x_r
 replace z5 := z5.sputL (b' := b) (A' := A5) (n' := n5) (c' := c5) (p' := b2) (B' := A6) (m' := n6) (d' := c6) (e' := q) x_r
 replace z6 := z6.sputL (b' := b) (A' := A5) (n' := n5) (c' := c5) (p' := b2) (B' := A6) (m' := n6) (d' := c6) (e' := q) x_r
 replace hb := put_belowL (g := w.heap.size + 1) hb (by omega) (.bool b) (.slice A5 n5 c5) (.bool b2) (.slice A6 n6 c6) (.int .i64 q)
 replace x_r := x_r.put b A5 n5 c5 b2 A6 n6 c6 q
 clear q_a0 f_a0 q_a1 f_a1 q_a2 f_a2 q_a3 f_a3 q_a4 f_a4 q_r0 f_r0 q_r1 f_r1 q_r2 f_r2 q_r3 f_r3 q_r4 f_r4
 generalize ((((v3.setCell ⟨w.heap.size + 1, 0, none⟩ (.bool b)).setCell ⟨w.heap.size + 1, 1, none⟩ (.slice A5 n5 c5)).setCell ⟨w.heap.size + 1, 2, none⟩ (.bool b2)).setCell ⟨w.heap.size + 1, 3, none⟩ (.slice A6 n6 c6)).setCell ⟨w.heap.size + 1, 4, none⟩ (.int .i64 q) = v4 at *
 have q_a0 := x_a.c0; have f_a0 := x_a.fr 0; have q_a1 := x_a.c1; have f_a1 := x_a.fr 1; have q_a2 := x_a.c2; have f_a2 := x_a.fr 2; have q_a3 := x_a.c3; have f_a3 := x_a.fr 3; have q_a4 := x_a.c4; have f_a4 := x_a.fr 4
 have q_r0 := x_r.c0; have f_r0 := x_r.fr 0; have q_r1 := x_r.c1; have f_r1 := x_r.fr 1; have q_r2 := x_r.c2; have f_r2 := x_r.fr 2; have q_r3 := x_r.c3; have f_r3 := x_r.fr 3; have q_r4 := x_r.c4; have f_r4 := x_r.fr 4
 refine bodyPost_ret (v := .agg #[.bool b, .slice A5 n5 c5, .bool b2, .slice A6 n6 c6, .int .i64 q]) (by simp [results, Tryz.results8, go_sem, q_r0, q_r1, q_r2, q_r3, q_r4]) rfl ?_
 exact ⟨_, _, _, _, _, _, rfl, z5, k5, z6, k6, hb⟩

end Go.Proofs.YtiigacddjihokaaGreatDoor
