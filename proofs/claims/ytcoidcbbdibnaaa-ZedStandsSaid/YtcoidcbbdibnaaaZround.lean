/-
  zed: Round, Up.
-/
import Derived.Test.YtcoidcbbdibnaaaZshr
namespace Go.Proofs.Ytcoidcbbdibnaaa
open Go.RowKit
set_option linter.unusedVariables false

theorem flip_true (A : Option Addr) (n c : Nat) (w : World) :
    Calls Try.prog 73 #[.agg #[.bool true, .slice A n c]] w fun e w' => e = .returned (.agg #[.bool false, .slice A n c]) ∧ Below w.heap.size w w' := flip_any true A n c w
theorem Zr.flipt {w : World} {A : Option Addr} {n c k : Nat} {X : Int} (h : Zr w true A n c X k) : Zr w false A n c (-X) k := h.flip

set_option maxRecDepth 100000 in
set_option maxHeartbeats 2000000 in
theorem pd_true (b : Bool) (A A2 : Option Addr) (n c n2 c2 : Nat) (w : World) :
    Calls Try.prog 51 #[.agg #[.bool b, .slice A n c], .agg #[.bool true, .slice A2 n2 c2]] w fun e w' => e = .returned (.tuple #[.agg #[.bool (!b), .slice A n c], .agg #[.bool false, .slice A2 n2 c2]]) ∧ Below w.heap.size w w' := by
  go_enter Try.func51, Try.ntmps51
  go_wp2_with fail
  obtain ⟨hb, x_a, x_b, x_p, x_q⟩ := box4 w b A n c true A2 n2 c2 false none 0 0 false none 0 0
  generalize (((w.alloc (.cells #[.bool b, .slice A n c] 24)).alloc (.cells #[.bool true, .slice A2 n2 c2] 24)).alloc (.cells #[.bool false, .slice none 0 0] 24)).alloc (.cells #[.bool false, .slice none 0 0] 24) = v1 at *
  have q_a0 := x_a.c0; have q_a1 := x_a.c1; have f_a0 := x_a.fr 0; have f_a1 := x_a.fr 1
  have q_b0 := x_b.c0; have q_b1 := x_b.c1; have f_b0 := x_b.fr 0; have f_b1 := x_b.fr 1
  have q_p0 := x_p.c0; have q_p1 := x_p.c1; have f_p0 := x_p.fr 0; have f_p1 := x_p.fr 1
  have q_q0 := x_q.c0; have q_q1 := x_q.c1; have f_q0 := x_q.fr 0; have f_q1 := x_q.fr 1
  go_wp2_with fail
  go_region_held3 (fun w' => w'.cell? ⟨w.heap.size, 0, none⟩ = some (.bool b) ∧ w'.cell? ⟨w.heap.size, 1, none⟩ = some (.slice A n c) ∧ w'.cell? ⟨w.heap.size + 1, 0, none⟩ = some (.bool true) ∧ w'.cell? ⟨w.heap.size + 1, 1, none⟩ = some (.slice A2 n2 c2))
    (first | (with_reducible exact ⟨x_a.c0, x_a.c1, x_b.c0, x_b.c1⟩) | (with_reducible exact ⟨(x_a.aside (by omega)).c0, (x_a.aside (by omega)).c1, (x_b.aside (by omega)).c0, (x_b.aside (by omega)).c1⟩) | (with_reducible exact ⟨((x_a.aside (by omega)).aside (by omega)).c0, ((x_a.aside (by omega)).aside (by omega)).c1, ((x_b.aside (by omega)).aside (by omega)).c0, ((x_b.aside (by omega)).aside (by omega)).c1⟩) | go_keep)
    (first | (go_at_call 73; (with_reducible refine (flip_any b A n c _).mono ?_); rintro e v2 ⟨rfl, hb1⟩; replace hb1 := undrew hb1; replace x_a := x_a.keep hb1; replace x_b := x_b.keep hb1; replace x_p := x_p.keep hb1; replace x_q := x_q.keep hb1; replace hb := bthen hb hb1; clear hb1; replace q_a0 := x_a.c0; replace q_a1 := x_a.c1; replace f_a0 := x_a.fr 0; replace f_a1 := x_a.fr 1; replace q_b0 := x_b.c0; replace q_b1 := x_b.c1; replace f_b0 := x_b.fr 0; replace f_b1 := x_b.fr 1; replace q_p0 := x_p.c0; replace q_p1 := x_p.c1; replace f_p0 := x_p.fr 0; replace f_p1 := x_p.fr 1; replace q_q0 := x_q.c0; replace q_q1 := x_q.c1; replace f_q0 := x_q.fr 0; replace f_q1 := x_q.fr 1) | (go_at_call 73; (with_reducible refine (flip_true A2 n2 c2 _).mono ?_); rintro e v3 ⟨rfl, hb1⟩; replace x_a := x_a.keep hb1; replace x_b := x_b.keep hb1; replace x_p := x_p.keep hb1; replace x_q := x_q.keep hb1; replace hb := bthen hb hb1; clear hb1; replace q_a0 := x_a.c0; replace q_a1 := x_a.c1; replace f_a0 := x_a.fr 0; replace f_a1 := x_a.fr 1; replace q_b0 := x_b.c0; replace q_b1 := x_b.c1; replace f_b0 := x_b.fr 0; replace f_b1 := x_b.fr 1; replace q_p0 := x_p.c0; replace q_p1 := x_p.c1; replace f_p0 := x_p.fr 0; replace f_p1 := x_p.fr 1; replace q_q0 := x_q.c0; replace q_q1 := x_q.c1; replace f_q0 := x_q.fr 0; replace f_q1 := x_q.fr 1))
  go_wp2
  replace x_a := x_a.aside (b' := (!b)) (A' := A) (n' := n) (c' := c) (g := w.heap.size + 1 + 1) (by omega)
  replace x_b := x_b.aside (b' := (!b)) (A' := A) (n' := n) (c' := c) (g := w.heap.size + 1 + 1) (by omega)
  replace x_q := x_q.aside (b' := (!b)) (A' := A) (n' := n) (c' := c) (g := w.heap.size + 1 + 1) (by omega)
  replace hb := put_below (g := w.heap.size + 1 + 1) hb (by omega) (.bool (!b)) (.slice A n c)
  replace x_p := x_p.put (!b) A n c
  clear q_a0 q_a1 f_a0 f_a1 q_b0 q_b1 f_b0 f_b1 q_p0 q_p1 f_p0 f_p1 q_q0 q_q1 f_q0 f_q1
  generalize (v3.setCell ⟨w.heap.size + 1 + 1, 0, none⟩ (.bool (!b))).setCell ⟨w.heap.size + 1 + 1, 1, none⟩ (.slice A n c) = v4 at *
  have q_a0 := x_a.c0; have q_a1 := x_a.c1; have f_a0 := x_a.fr 0; have f_a1 := x_a.fr 1
  have q_b0 := x_b.c0; have q_b1 := x_b.c1; have f_b0 := x_b.fr 0; have f_b1 := x_b.fr 1
  have q_p0 := x_p.c0; have q_p1 := x_p.c1; have f_p0 := x_p.fr 0; have f_p1 := x_p.fr 1
  have q_q0 := x_q.c0; have q_q1 := x_q.c1; have f_q0 := x_q.fr 0; have f_q1 := x_q.fr 1
  replace x_a := x_a.aside (b' := false) (A' := A2) (n' := n2) (c' := c2) (g := w.heap.size + 1 + 1 + 1) (by omega)
  replace x_b := x_b.aside (b' := false) (A' := A2) (n' := n2) (c' := c2) (g := w.heap.size + 1 + 1 + 1) (by omega)
  replace x_p := x_p.aside (b' := false) (A' := A2) (n' := n2) (c' := c2) (g := w.heap.size + 1 + 1 + 1) (by omega)
  replace hb := put_below (g := w.heap.size + 1 + 1 + 1) hb (by omega) (.bool false) (.slice A2 n2 c2)
  replace x_q := x_q.put false A2 n2 c2
  clear q_a0 q_a1 f_a0 f_a1 q_b0 q_b1 f_b0 f_b1 q_p0 q_p1 f_p0 f_p1 q_q0 q_q1 f_q0 f_q1
  generalize (v4.setCell ⟨w.heap.size + 1 + 1 + 1, 0, none⟩ (.bool false)).setCell ⟨w.heap.size + 1 + 1 + 1, 1, none⟩ (.slice A2 n2 c2) = v5 at *
  have q_a0 := x_a.c0; have q_a1 := x_a.c1; have f_a0 := x_a.fr 0; have f_a1 := x_a.fr 1
  have q_b0 := x_b.c0; have q_b1 := x_b.c1; have f_b0 := x_b.fr 0; have f_b1 := x_b.fr 1
  have q_p0 := x_p.c0; have q_p1 := x_p.c1; have f_p0 := x_p.fr 0; have f_p1 := x_p.fr 1
  have q_q0 := x_q.c0; have q_q1 := x_q.c1; have f_q0 := x_q.fr 0; have f_q1 := x_q.fr 1
  refine bodyPost_ret (v := .tuple #[.agg #[.bool (!b), .slice A n c], .agg #[.bool false, .slice A2 n2 c2]]) (by simp [results, Try.results51, go_sem, q_p0, q_p1, q_q0, q_q1]) rfl ?_
  exact ⟨rfl, hb⟩

set_option maxRecDepth 100000 in
set_option maxHeartbeats 2000000 in
theorem pd_false (b : Bool) (A A2 : Option Addr) (n c n2 c2 : Nat) (w : World) :
    Calls Try.prog 51 #[.agg #[.bool b, .slice A n c], .agg #[.bool false, .slice A2 n2 c2]] w fun e w' => e = .returned (.tuple #[.agg #[.bool b, .slice A n c], .agg #[.bool false, .slice A2 n2 c2]]) ∧ Below w.heap.size w w' := by
  go_enter Try.func51, Try.ntmps51
  go_wp2_with fail
  obtain ⟨hb, x_a, x_b, x_p, x_q⟩ := box4 w b A n c false A2 n2 c2 false none 0 0 false none 0 0
  generalize (((w.alloc (.cells #[.bool b, .slice A n c] 24)).alloc (.cells #[.bool false, .slice A2 n2 c2] 24)).alloc (.cells #[.bool false, .slice none 0 0] 24)).alloc (.cells #[.bool false, .slice none 0 0] 24) = v1 at *
  have q_a0 := x_a.c0; have q_a1 := x_a.c1; have f_a0 := x_a.fr 0; have f_a1 := x_a.fr 1
  have q_b0 := x_b.c0; have q_b1 := x_b.c1; have f_b0 := x_b.fr 0; have f_b1 := x_b.fr 1
  have q_p0 := x_p.c0; have q_p1 := x_p.c1; have f_p0 := x_p.fr 0; have f_p1 := x_p.fr 1
  have q_q0 := x_q.c0; have q_q1 := x_q.c1; have f_q0 := x_q.fr 0; have f_q1 := x_q.fr 1
  go_wp2_with fail
  go_region_held3 (fun w' => w'.cell? ⟨w.heap.size, 0, none⟩ = some (.bool b) ∧ w'.cell? ⟨w.heap.size, 1, none⟩ = some (.slice A n c) ∧ w'.cell? ⟨w.heap.size + 1, 0, none⟩ = some (.bool false) ∧ w'.cell? ⟨w.heap.size + 1, 1, none⟩ = some (.slice A2 n2 c2))
    (first | (with_reducible exact ⟨x_a.drew.c0, x_a.drew.c1, x_b.drew.c0, x_b.drew.c1⟩) | (with_reducible exact ⟨(x_a.aside (by omega)).drew.c0, (x_a.aside (by omega)).drew.c1, (x_b.aside (by omega)).drew.c0, (x_b.aside (by omega)).drew.c1⟩) | (with_reducible exact ⟨((x_a.aside (by omega)).aside (by omega)).drew.c0, ((x_a.aside (by omega)).aside (by omega)).drew.c1, ((x_b.aside (by omega)).aside (by omega)).drew.c0, ((x_b.aside (by omega)).aside (by omega)).drew.c1⟩) | go_keep)
    (first | fail)
  skip
  replace x_a := x_a.aside (b' := b) (A' := A) (n' := n) (c' := c) (g := w.heap.size + 1 + 1) (by omega)
  replace x_b := x_b.aside (b' := b) (A' := A) (n' := n) (c' := c) (g := w.heap.size + 1 + 1) (by omega)
  replace x_q := x_q.aside (b' := b) (A' := A) (n' := n) (c' := c) (g := w.heap.size + 1 + 1) (by omega)
  replace hb := put_below (g := w.heap.size + 1 + 1) hb (by omega) (.bool b) (.slice A n c)
  replace x_p := x_p.put b A n c
  clear q_a0 q_a1 f_a0 f_a1 q_b0 q_b1 f_b0 f_b1 q_p0 q_p1 f_p0 f_p1 q_q0 q_q1 f_q0 f_q1
  generalize (v1.setCell ⟨w.heap.size + 1 + 1, 0, none⟩ (.bool b)).setCell ⟨w.heap.size + 1 + 1, 1, none⟩ (.slice A n c) = v2 at *
  have q_a0 := x_a.c0; have q_a1 := x_a.c1; have f_a0 := x_a.fr 0; have f_a1 := x_a.fr 1
  have q_b0 := x_b.c0; have q_b1 := x_b.c1; have f_b0 := x_b.fr 0; have f_b1 := x_b.fr 1
  have q_p0 := x_p.c0; have q_p1 := x_p.c1; have f_p0 := x_p.fr 0; have f_p1 := x_p.fr 1
  have q_q0 := x_q.c0; have q_q1 := x_q.c1; have f_q0 := x_q.fr 0; have f_q1 := x_q.fr 1
  replace x_a := x_a.aside (b' := false) (A' := A2) (n' := n2) (c' := c2) (g := w.heap.size + 1 + 1 + 1) (by omega)
  replace x_b := x_b.aside (b' := false) (A' := A2) (n' := n2) (c' := c2) (g := w.heap.size + 1 + 1 + 1) (by omega)
  replace x_p := x_p.aside (b' := false) (A' := A2) (n' := n2) (c' := c2) (g := w.heap.size + 1 + 1 + 1) (by omega)
  replace hb := put_below (g := w.heap.size + 1 + 1 + 1) hb (by omega) (.bool false) (.slice A2 n2 c2)
  replace x_q := x_q.put false A2 n2 c2
  clear q_a0 q_a1 f_a0 f_a1 q_b0 q_b1 f_b0 f_b1 q_p0 q_p1 f_p0 f_p1 q_q0 q_q1 f_q0 f_q1
  generalize (v2.setCell ⟨w.heap.size + 1 + 1 + 1, 0, none⟩ (.bool false)).setCell ⟨w.heap.size + 1 + 1 + 1, 1, none⟩ (.slice A2 n2 c2) = v3 at *
  have q_a0 := x_a.c0; have q_a1 := x_a.c1; have f_a0 := x_a.fr 0; have f_a1 := x_a.fr 1
  have q_b0 := x_b.c0; have q_b1 := x_b.c1; have f_b0 := x_b.fr 0; have f_b1 := x_b.fr 1
  have q_p0 := x_p.c0; have q_p1 := x_p.c1; have f_p0 := x_p.fr 0; have f_p1 := x_p.fr 1
  have q_q0 := x_q.c0; have q_q1 := x_q.c1; have f_q0 := x_q.fr 0; have f_q1 := x_q.fr 1
  replace x_a := x_a.drew
  replace x_b := x_b.drew
  replace x_p := x_p.drew
  replace x_q := x_q.drew
  replace hb := below_drew hb
  clear q_a0 q_a1 f_a0 f_a1 q_b0 q_b1 f_b0 f_b1 q_p0 q_p1 f_p0 f_p1 q_q0 q_q1 f_q0 f_q1
  generalize v3.drew = v4 at *
  have q_a0 := x_a.c0; have q_a1 := x_a.c1; have f_a0 := x_a.fr 0; have f_a1 := x_a.fr 1
  have q_b0 := x_b.c0; have q_b1 := x_b.c1; have f_b0 := x_b.fr 0; have f_b1 := x_b.fr 1
  have q_p0 := x_p.c0; have q_p1 := x_p.c1; have f_p0 := x_p.fr 0; have f_p1 := x_p.fr 1
  have q_q0 := x_q.c0; have q_q1 := x_q.c1; have f_q0 := x_q.fr 0; have f_q1 := x_q.fr 1
  go_wp2
  refine bodyPost_ret (v := .tuple #[.agg #[.bool b, .slice A n c], .agg #[.bool false, .slice A2 n2 c2]]) (by simp [results, Try.results51, go_sem, q_p0, q_p1, q_q0, q_q1]) rfl ?_
  exact ⟨rfl, hb⟩

end Go.Proofs.Ytcoidcbbdibnaaa
