/-
  dyad: Norm, Of, Sign, Neg, Shift, Log, Floor, Ceil.
-/
import Derived.Test.YtcoidcbbdibnaaaDoorDres
namespace Go.Proofs.YtcoidcbbdibnaaaDoor
open Go.RowKit
set_option linter.unusedVariables false

theorem limit_bel (n : Int) (w : World) : Calls Tryd.prog 61 #[.int .i64 n] w fun e w' => e = .returned (.int .i64 (li n)) ∧ Below w.heap.size w w' :=
  (limit_any n w).mono fun e w' ⟨h1, h2⟩ => ⟨h1, by rw [← h2]; exact Below.refl _ _⟩
/-- An integer times a power of two, rounded down. -/
def flI (X n : Int) : Int := if n < 0 then X / 2 ^ (-n).toNat else X * 2 ^ n.toNat
theorem tup_ib {a b : Int} {x y : Bool} (h : a = b) (h2 : x = y) : Ending.returned (.tuple #[.int .i64 a, .bool x]) = .returned (.tuple #[.int .i64 b, .bool y]) := by rw [h, h2]
theorem wrap_in {n : Int} (h0 : -9223372036854775808 ≤ n) (h1 : n ≤ 9223372036854775807) : IntKind.i64.wrap n = n := IntWalk.i64_in _ ⟨h0, h1⟩
theorem sc_toNat {n : Int} (h0 : 0 ≤ n) (h1 : n ≤ 8192) : sc n = n.toNat := by unfold sc; omega

theorem field0 (b : Bool) (A : Option Addr) (n c : Nat) (e : Int) (w : World) : (Instr.field 26 (.agg #[.bool b, .slice A n c, .int .i64 e]) 0).run Tryd.prog w = .ok (.agg #[.bool b, .slice A n c]) w := by
  kernel_rfl
set_option maxRecDepth 100000 in
set_option maxHeartbeats 1000000 in
theorem DNorm_any {b : Bool} {A : Option Addr} {n c : Nat} {X e : Int} {j : Nat} {w : World} (h : Zr w b A n c X j) (hT : Tab w) (k : Nat) (hk : j + 1 ≤ k) (hj : k ≤ 1000000) :
    Calls Tryd.prog 11 #[.agg #[.bool b, .slice A n c, .int .i64 e]] w (OutD w (od (cM X e)) (nE (cM X e) (cE e)) k) := by
  have hc := cE_in e
  go_enter Tryd.func11, Tryd.ntmps11
  go_wp2_with fail
  have x_a : Dx (w.alloc (.cells #[.bool b, .slice A n c, .int .i64 e] 26)) (w.heap.size) b A n c e := by have := Dx.new w b A n c e; simpa using this
  replace x_a := x_a.alloc (.cells #[.bool false, .slice none 0 0, .int .i64 0] 26)
  have x_r : Dx ((w.alloc (.cells #[.bool b, .slice A n c, .int .i64 e] 26)).alloc (.cells #[.bool false, .slice none 0 0, .int .i64 0] 26)) (w.heap.size + 1) false none 0 0 0 := by have := Dx.new (w.alloc (.cells #[.bool b, .slice A n c, .int .i64 e] 26)) false none 0 0 0; simpa using this
  have hb : Below w.heap.size w ((w.alloc (.cells #[.bool b, .slice A n c, .int .i64 e] 26)).alloc (.cells #[.bool false, .slice none 0 0, .int .i64 0] 26)) := (Below.alloc (Below.alloc (Below.refl w.heap.size w) (by simp) (.cells #[.bool b, .slice A n c, .int .i64 e] 26)) (by simp) (.cells #[.bool false, .slice none 0 0, .int .i64 0] 26))
  generalize (w.alloc (.cells #[.bool b, .slice A n c, .int .i64 e] 26)).alloc (.cells #[.bool false, .slice none 0 0, .int .i64 0] 26) = v1 at *
  replace h := h.keep hb
  replace hT := hT.keep hb
  have q_a0 := x_a.c0; have q_a1 := x_a.c1; have f_a0 := x_a.fr 0; have f_a1 := x_a.fr 1; have q_a2 := x_a.c2; have f_a2 := x_a.fr 2
  have q_r0 := x_r.c0; have q_r1 := x_r.c1; have f_r0 := x_r.fr 0; have f_r1 := x_r.fr 1; have q_r2 := x_r.c2; have f_r2 := x_r.fr 2
  go_wp2_with fail
  with_reducible refine (read_any h).mono ?_
  rintro e v2 ⟨b1, A1, n1, c1, rfl, zc, hb1⟩
  replace x_a := x_a.keep hb1
  replace x_r := x_r.keep hb1
  replace h := h.keep hb1
  replace hT := hT.keep hb1
  replace hb := bthen hb hb1
  clear hb1
  replace q_a0 := x_a.c0; replace q_a1 := x_a.c1; replace f_a0 := x_a.fr 0; replace f_a1 := x_a.fr 1; replace q_a2 := x_a.c2; replace f_a2 := x_a.fr 2
  replace q_r0 := x_r.c0; replace q_r1 := x_r.c1; replace f_r0 := x_r.fr 0; replace f_r1 := x_r.fr 1; replace q_r2 := x_r.c2; replace f_r2 := x_r.fr 2
  clear h
  go_wp2_with fail
  replace x_r := x_r.asideD (b' := b1) (A' := A1) (n' := n1) (c' := c1) (e' := (cE e)) (g := w.heap.size) (by omega)
  replace hT := hT.putD (b' := b1) (A' := A1) (n' := n1) (c' := c1) (e' := (cE e)) x_a
  replace zc := zc.putD (b' := b1) (A' := A1) (n' := n1) (c' := c1) (e' := (cE e)) x_a
  replace hb := put_belowD (g := w.heap.size) hb (by omega) (.bool b1) (.slice A1 n1 c1) (.int .i64 (cE e))
  replace x_a := x_a.put b1 A1 n1 c1 (cE e)
  clear q_a0 q_a1 f_a0 f_a1 q_a2 f_a2 q_r0 q_r1 f_r0 f_r1 q_r2 f_r2
  generalize ((v2.setCell ⟨w.heap.size, 0, none⟩ (.bool b1)).setCell ⟨w.heap.size, 1, none⟩ (.slice A1 n1 c1)).setCell ⟨w.heap.size, 2, none⟩ (.int .i64 (cE e)) = v3 at *
  have q_a0 := x_a.c0; have q_a1 := x_a.c1; have f_a0 := x_a.fr 0; have f_a1 := x_a.fr 1; have q_a2 := x_a.c2; have f_a2 := x_a.fr 2
  have q_r0 := x_r.c0; have q_r1 := x_r.c1; have f_r0 := x_r.fr 0; have f_r1 := x_r.fr 1; have q_r2 := x_r.c2; have f_r2 := x_r.fr 2
  with_reducible refine (result_any zc hT (cE e) (by omega) k hk hj).mono ?_
  rintro e v4 ⟨A2, n2, c2, rfl, z1, hb1⟩
  replace x_a := x_a.keep hb1
  replace x_r := x_r.keep hb1
  replace hT := hT.keep hb1
  replace zc := zc.keep hb1
  replace hb := bthen hb hb1
  clear hb1
  replace q_a0 := x_a.c0; replace q_a1 := x_a.c1; replace f_a0 := x_a.fr 0; replace f_a1 := x_a.fr 1; replace q_a2 := x_a.c2; replace f_a2 := x_a.fr 2
  replace q_r0 := x_r.c0; replace q_r1 := x_r.c1; replace f_r0 := x_r.fr 0; replace f_r1 := x_r.fr 1; replace q_r2 := x_r.c2; replace f_r2 := x_r.fr 2
  go_wp2
  replace x_a := x_a.asideD (b' := (ngB (od (cM X e)))) (A' := A2) (n' := n2) (c' := c2) (e' := (nE (cM X e) (cE e))) (g := w.heap.size + 1) (by omega)
  replace hT := hT.putD (b' := (ngB (od (cM X e)))) (A' := A2) (n' := n2) (c' := c2) (e' := (nE (cM X e) (cE e))) x_r
  replace zc := zc.putD (b' := (ngB (od (cM X e)))) (A' := A2) (n' := n2) (c' := c2) (e' := (nE (cM X e) (cE e))) x_r
  replace z1 := z1.putD (b' := (ngB (od (cM X e)))) (A' := A2) (n' := n2) (c' := c2) (e' := (nE (cM X e) (cE e))) x_r
  replace hb := put_belowD (g := w.heap.size + 1) hb (by omega) (.bool (ngB (od (cM X e)))) (.slice A2 n2 c2) (.int .i64 (nE (cM X e) (cE e)))
  replace x_r := x_r.put (ngB (od (cM X e))) A2 n2 c2 (nE (cM X e) (cE e))
  clear q_a0 q_a1 f_a0 f_a1 q_a2 f_a2 q_r0 q_r1 f_r0 f_r1 q_r2 f_r2
  generalize ((v4.setCell ⟨w.heap.size + 1, 0, none⟩ (.bool (ngB (od (cM X e))))).setCell ⟨w.heap.size + 1, 1, none⟩ (.slice A2 n2 c2)).setCell ⟨w.heap.size + 1, 2, none⟩ (.int .i64 (nE (cM X e) (cE e))) = v5 at *
  have q_a0 := x_a.c0; have q_a1 := x_a.c1; have f_a0 := x_a.fr 0; have f_a1 := x_a.fr 1; have q_a2 := x_a.c2; have f_a2 := x_a.fr 2
  have q_r0 := x_r.c0; have q_r1 := x_r.c1; have f_r0 := x_r.fr 0; have f_r1 := x_r.fr 1; have q_r2 := x_r.c2; have f_r2 := x_r.fr 2
  refine bodyPost_ret (v := .agg #[.bool (ngB (od (cM X e))), .slice A2 n2 c2, .int .i64 (nE (cM X e) (cE e))]) (by simp [results, Tryd.results11, go_sem, q_r0, q_r1, q_r2]) rfl ?_
  exact ⟨_, _, _, rfl, z1, hb⟩

set_option maxRecDepth 100000 in
set_option maxHeartbeats 1000000 in
theorem DOf_any {b : Bool} {A : Option Addr} {n c : Nat} {X e : Int} {j : Nat} {w : World} (h : Zr w b A n c X j) (hT : Tab w) (k : Nat) (hk : j + 1 ≤ k) (hj : k ≤ 1000000) :
    Calls Tryd.prog 14 #[.agg #[.bool b, .slice A n c], .int .i64 e] w (OutD w (od (cM X e)) (nE (cM X e) (cE e)) k) := by
  go_enter Tryd.func14, Tryd.ntmps14
  go_wp2_with fail
  have x_m : Bx (w.alloc (.cells #[.bool b, .slice A n c] 24)) (w.heap.size) b A n c := by have := Bx.new w b A n c; simpa using this
  replace x_m := x_m.alloc (.cells #[.bool false, .slice none 0 0, .int .i64 0] 26)
  have x_r : Dx ((w.alloc (.cells #[.bool b, .slice A n c] 24)).alloc (.cells #[.bool false, .slice none 0 0, .int .i64 0] 26)) (w.heap.size + 1) false none 0 0 0 := by have := Dx.new (w.alloc (.cells #[.bool b, .slice A n c] 24)) false none 0 0 0; simpa using this
  have hb : Below w.heap.size w ((w.alloc (.cells #[.bool b, .slice A n c] 24)).alloc (.cells #[.bool false, .slice none 0 0, .int .i64 0] 26)) := (Below.alloc (Below.alloc (Below.refl w.heap.size w) (by simp) (.cells #[.bool b, .slice A n c] 24)) (by simp) (.cells #[.bool false, .slice none 0 0, .int .i64 0] 26))
  generalize (w.alloc (.cells #[.bool b, .slice A n c] 24)).alloc (.cells #[.bool false, .slice none 0 0, .int .i64 0] 26) = v1 at *
  replace h := h.keep hb
  replace hT := hT.keep hb
  have q_m0 := x_m.c0; have q_m1 := x_m.c1; have f_m0 := x_m.fr 0; have f_m1 := x_m.fr 1
  have q_r0 := x_r.c0; have q_r1 := x_r.c1; have f_r0 := x_r.fr 0; have f_r1 := x_r.fr 1; have q_r2 := x_r.c2; have f_r2 := x_r.fr 2
  go_wp2_with fail
  with_reducible refine (DNorm_any h hT k hk hj).mono ?_
  rintro e v2 ⟨A2, n2, c2, rfl, z1, hb1⟩
  replace x_m := x_m.keep hb1
  replace x_r := x_r.keep hb1
  replace h := h.keep hb1
  replace hT := hT.keep hb1
  replace hb := bthen hb hb1
  clear hb1
  replace q_m0 := x_m.c0; replace q_m1 := x_m.c1; replace f_m0 := x_m.fr 0; replace f_m1 := x_m.fr 1
  replace q_r0 := x_r.c0; replace q_r1 := x_r.c1; replace f_r0 := x_r.fr 0; replace f_r1 := x_r.fr 1; replace q_r2 := x_r.c2; replace f_r2 := x_r.fr 2
  go_wp2
  replace x_m := x_m.asideD (b' := (ngB (od (cM X e)))) (A' := A2) (n' := n2) (c' := c2) (e' := (nE (cM X e) (cE e))) (g := w.heap.size + 1) (by omega)
  replace h := h.putD (b' := (ngB (od (cM X e)))) (A' := A2) (n' := n2) (c' := c2) (e' := (nE (cM X e) (cE e))) x_r
  replace hT := hT.putD (b' := (ngB (od (cM X e)))) (A' := A2) (n' := n2) (c' := c2) (e' := (nE (cM X e) (cE e))) x_r
  replace z1 := z1.putD (b' := (ngB (od (cM X e)))) (A' := A2) (n' := n2) (c' := c2) (e' := (nE (cM X e) (cE e))) x_r
  replace hb := put_belowD (g := w.heap.size + 1) hb (by omega) (.bool (ngB (od (cM X e)))) (.slice A2 n2 c2) (.int .i64 (nE (cM X e) (cE e)))
  replace x_r := x_r.put (ngB (od (cM X e))) A2 n2 c2 (nE (cM X e) (cE e))
  clear q_m0 q_m1 f_m0 f_m1 q_r0 q_r1 f_r0 f_r1 q_r2 f_r2
  generalize ((v2.setCell ⟨w.heap.size + 1, 0, none⟩ (.bool (ngB (od (cM X e))))).setCell ⟨w.heap.size + 1, 1, none⟩ (.slice A2 n2 c2)).setCell ⟨w.heap.size + 1, 2, none⟩ (.int .i64 (nE (cM X e) (cE e))) = v3 at *
  have q_m0 := x_m.c0; have q_m1 := x_m.c1; have f_m0 := x_m.fr 0; have f_m1 := x_m.fr 1
  have q_r0 := x_r.c0; have q_r1 := x_r.c1; have f_r0 := x_r.fr 0; have f_r1 := x_r.fr 1; have q_r2 := x_r.c2; have f_r2 := x_r.fr 2
  refine bodyPost_ret (v := .agg #[.bool (ngB (od (cM X e))), .slice A2 n2 c2, .int .i64 (nE (cM X e) (cE e))]) (by simp [results, Tryd.results14, go_sem, q_r0, q_r1, q_r2]) rfl ?_
  exact ⟨_, _, _, rfl, z1, hb⟩

set_option maxRecDepth 100000 in
set_option maxHeartbeats 1000000 in
theorem DSign_any {b : Bool} {A : Option Addr} {n c : Nat} {X e : Int} {j : Nat} {w : World} (h : Zr w b A n c X j) (hj : j ≤ 1000000) :
    Calls Tryd.prog 18 #[.agg #[.bool b, .slice A n c, .int .i64 e]] w fun en w' => en = .returned (.int .i64 (sgnI (cM X e))) ∧ Below w.heap.size w w' := by
  go_enter Tryd.func18, Tryd.ntmps18
  go_wp2_with fail
  have x_a : Dx (w.alloc (.cells #[.bool b, .slice A n c, .int .i64 e] 26)) (w.heap.size) b A n c e := by have := Dx.new w b A n c e; simpa using this
  have hb : Below w.heap.size w (w.alloc (.cells #[.bool b, .slice A n c, .int .i64 e] 26)) := (Below.alloc (Below.refl w.heap.size w) (by simp) (.cells #[.bool b, .slice A n c, .int .i64 e] 26))
  generalize w.alloc (.cells #[.bool b, .slice A n c, .int .i64 e] 26) = v1 at *
  replace h := h.keep hb
  have q_a0 := x_a.c0; have q_a1 := x_a.c1; have f_a0 := x_a.fr 0; have f_a1 := x_a.fr 1; have q_a2 := x_a.c2; have f_a2 := x_a.fr 2
  go_wp2_with fail
  with_reducible refine (read_any h).mono ?_
  rintro e v2 ⟨b1, A1, n1, c1, rfl, zc, hb1⟩
  replace x_a := x_a.keep hb1
  replace h := h.keep hb1
  replace hb := bthen hb hb1
  clear hb1
  replace q_a0 := x_a.c0; replace q_a1 := x_a.c1; replace f_a0 := x_a.fr 0; replace f_a1 := x_a.fr 1; replace q_a2 := x_a.c2; replace f_a2 := x_a.fr 2
  clear h
  have hfl := field0 b1 A1 n1 c1 (cE e) v2
  go_wp2_with fail
  with_reducible refine (ZSign_any zc hj).mono ?_
  rintro e v3 ⟨rfl, hb1⟩
  replace x_a := x_a.keep hb1
  replace zc := zc.keep hb1
  replace hb := bthen hb hb1
  clear hb1
  replace q_a0 := x_a.c0; replace q_a1 := x_a.c1; replace f_a0 := x_a.fr 0; replace f_a1 := x_a.fr 1; replace q_a2 := x_a.c2; replace f_a2 := x_a.fr 2
  go_wp2
  go_ret
  exact ⟨rfl, hb⟩

set_option maxRecDepth 100000 in
set_option maxHeartbeats 1000000 in
theorem DNeg_any {b : Bool} {A : Option Addr} {n c : Nat} {X e : Int} {j : Nat} {w : World} (h : Zr w b A n c X j) (hT : Tab w) (k : Nat) (hk : j + 1 ≤ k) (hj : k ≤ 1000000) :
    Calls Tryd.prog 28 #[.agg #[.bool b, .slice A n c, .int .i64 e]] w (OutD w (od (-cM X e)) (nE (-cM X e) (cE e)) k) := by
  have hc := cE_in e
  go_enter Tryd.func28, Tryd.ntmps28
  go_wp2_with fail
  have x_a : Dx (w.alloc (.cells #[.bool b, .slice A n c, .int .i64 e] 26)) (w.heap.size) b A n c e := by have := Dx.new w b A n c e; simpa using this
  replace x_a := x_a.alloc (.cells #[.bool false, .slice none 0 0, .int .i64 0] 26)
  have x_r : Dx ((w.alloc (.cells #[.bool b, .slice A n c, .int .i64 e] 26)).alloc (.cells #[.bool false, .slice none 0 0, .int .i64 0] 26)) (w.heap.size + 1) false none 0 0 0 := by have := Dx.new (w.alloc (.cells #[.bool b, .slice A n c, .int .i64 e] 26)) false none 0 0 0; simpa using this
  have hb : Below w.heap.size w ((w.alloc (.cells #[.bool b, .slice A n c, .int .i64 e] 26)).alloc (.cells #[.bool false, .slice none 0 0, .int .i64 0] 26)) := (Below.alloc (Below.alloc (Below.refl w.heap.size w) (by simp) (.cells #[.bool b, .slice A n c, .int .i64 e] 26)) (by simp) (.cells #[.bool false, .slice none 0 0, .int .i64 0] 26))
  generalize (w.alloc (.cells #[.bool b, .slice A n c, .int .i64 e] 26)).alloc (.cells #[.bool false, .slice none 0 0, .int .i64 0] 26) = v1 at *
  replace h := h.keep hb
  replace hT := hT.keep hb
  have q_a0 := x_a.c0; have q_a1 := x_a.c1; have f_a0 := x_a.fr 0; have f_a1 := x_a.fr 1; have q_a2 := x_a.c2; have f_a2 := x_a.fr 2
  have q_r0 := x_r.c0; have q_r1 := x_r.c1; have f_r0 := x_r.fr 0; have f_r1 := x_r.fr 1; have q_r2 := x_r.c2; have f_r2 := x_r.fr 2
  go_wp2_with fail
  with_reducible refine (read_any h).mono ?_
  rintro e v2 ⟨b1, A1, n1, c1, rfl, zc, hb1⟩
  replace x_a := x_a.keep hb1
  replace x_r := x_r.keep hb1
  replace h := h.keep hb1
  replace hT := hT.keep hb1
  replace hb := bthen hb hb1
  clear hb1
  replace q_a0 := x_a.c0; replace q_a1 := x_a.c1; replace f_a0 := x_a.fr 0; replace f_a1 := x_a.fr 1; replace q_a2 := x_a.c2; replace f_a2 := x_a.fr 2
  replace q_r0 := x_r.c0; replace q_r1 := x_r.c1; replace f_r0 := x_r.fr 0; replace f_r1 := x_r.fr 1; replace q_r2 := x_r.c2; replace f_r2 := x_r.fr 2
  clear h
  go_wp2_with fail
  replace x_r := x_r.asideD (b' := b1) (A' := A1) (n' := n1) (c' := c1) (e' := (cE e)) (g := w.heap.size) (by omega)
  replace hT := hT.putD (b' := b1) (A' := A1) (n' := n1) (c' := c1) (e' := (cE e)) x_a
  replace zc := zc.putD (b' := b1) (A' := A1) (n' := n1) (c' := c1) (e' := (cE e)) x_a
  replace hb := put_belowD (g := w.heap.size) hb (by omega) (.bool b1) (.slice A1 n1 c1) (.int .i64 (cE e))
  replace x_a := x_a.put b1 A1 n1 c1 (cE e)
  clear q_a0 q_a1 f_a0 f_a1 q_a2 f_a2 q_r0 q_r1 f_r0 f_r1 q_r2 f_r2
  generalize ((v2.setCell ⟨w.heap.size, 0, none⟩ (.bool b1)).setCell ⟨w.heap.size, 1, none⟩ (.slice A1 n1 c1)).setCell ⟨w.heap.size, 2, none⟩ (.int .i64 (cE e)) = v3 at *
  have q_a0 := x_a.c0; have q_a1 := x_a.c1; have f_a0 := x_a.fr 0; have f_a1 := x_a.fr 1; have q_a2 := x_a.c2; have f_a2 := x_a.fr 2
  have q_r0 := x_r.c0; have q_r1 := x_r.c1; have f_r0 := x_r.fr 0; have f_r1 := x_r.fr 1; have q_r2 := x_r.c2; have f_r2 := x_r.fr 2
  go_region_held3 (fun w' => w'.cell? ⟨w.heap.size, 0, none⟩ = some (.bool b1) ∧ w'.cell? ⟨w.heap.size, 1, none⟩ = some (.slice A1 n1 c1) ∧ w'.cell? ⟨w.heap.size, 2, none⟩ = some (.int .i64 (cE e)))
    (first | (with_reducible exact ⟨x_a.c0, x_a.c1, x_a.c2⟩) | (with_reducible exact ⟨(x_a.aside (by omega)).c0, (x_a.aside (by omega)).c1, (x_a.aside (by omega)).c2⟩) | (with_reducible exact ⟨((x_a.aside (by omega)).aside (by omega)).c0, ((x_a.aside (by omega)).aside (by omega)).c1, ((x_a.aside (by omega)).aside (by omega)).c2⟩) | (with_reducible exact ⟨(x_a.asideD (by omega)).c0, (x_a.asideD (by omega)).c1, (x_a.asideD (by omega)).c2⟩) | (with_reducible exact ⟨((x_a.asideD (by omega)).asideD (by omega)).c0, ((x_a.asideD (by omega)).asideD (by omega)).c1, ((x_a.asideD (by omega)).asideD (by omega)).c2⟩) | go_keep)
    (first | (go_at_call 59; (with_reducible refine (ZNeg_any zc.drw j (Nat.le_refl _)).mono ?_); rintro e v4 ⟨A2, n2, c2, rfl, z1, hb1⟩; replace hb1 := undrew hb1; replace x_a := x_a.keep hb1; replace x_r := x_r.keep hb1; replace hT := hT.keep hb1; replace zc := zc.keep hb1; replace hb := bthen hb hb1; clear hb1; replace q_a0 := x_a.c0; replace q_a1 := x_a.c1; replace f_a0 := x_a.fr 0; replace f_a1 := x_a.fr 1; replace q_a2 := x_a.c2; replace f_a2 := x_a.fr 2; replace q_r0 := x_r.c0; replace q_r1 := x_r.c1; replace f_r0 := x_r.fr 0; replace f_r1 := x_r.fr 1; replace q_r2 := x_r.c2; replace f_r2 := x_r.fr 2) | (go_at_call 46; (with_reducible refine (result_any z1.zr hT (cE e) (by omega) k hk hj).mono ?_); rintro e v5 ⟨A3, n3, c3, rfl, z3, hb1⟩; replace x_a := x_a.keep hb1; replace x_r := x_r.keep hb1; replace hT := hT.keep hb1; replace zc := zc.keep hb1; replace z1 := z1.keep hb1; replace hb := bthen hb hb1; clear hb1; replace q_a0 := x_a.c0; replace q_a1 := x_a.c1; replace f_a0 := x_a.fr 0; replace f_a1 := x_a.fr 1; replace q_a2 := x_a.c2; replace f_a2 := x_a.fr 2; replace q_r0 := x_r.c0; replace q_r1 := x_r.c1; replace f_r0 := x_r.fr 0; replace f_r1 := x_r.fr 1; replace q_r2 := x_r.c2; replace f_r2 := x_r.fr 2))
  go_wp2
  replace x_a := x_a.asideD (b' := (ngB (od (-cM X e)))) (A' := A3) (n' := n3) (c' := c3) (e' := (nE (-cM X e) (cE e))) (g := w.heap.size + 1) (by omega)
  replace hT := hT.putD (b' := (ngB (od (-cM X e)))) (A' := A3) (n' := n3) (c' := c3) (e' := (nE (-cM X e) (cE e))) x_r
  replace zc := zc.putD (b' := (ngB (od (-cM X e)))) (A' := A3) (n' := n3) (c' := c3) (e' := (nE (-cM X e) (cE e))) x_r
  replace z1 := z1.putD (b' := (ngB (od (-cM X e)))) (A' := A3) (n' := n3) (c' := c3) (e' := (nE (-cM X e) (cE e))) x_r
  replace z3 := z3.putD (b' := (ngB (od (-cM X e)))) (A' := A3) (n' := n3) (c' := c3) (e' := (nE (-cM X e) (cE e))) x_r
  replace hb := put_belowD (g := w.heap.size + 1) hb (by omega) (.bool (ngB (od (-cM X e)))) (.slice A3 n3 c3) (.int .i64 (nE (-cM X e) (cE e)))
  replace x_r := x_r.put (ngB (od (-cM X e))) A3 n3 c3 (nE (-cM X e) (cE e))
  clear q_a0 q_a1 f_a0 f_a1 q_a2 f_a2 q_r0 q_r1 f_r0 f_r1 q_r2 f_r2
  generalize ((v5.setCell ⟨w.heap.size + 1, 0, none⟩ (.bool (ngB (od (-cM X e))))).setCell ⟨w.heap.size + 1, 1, none⟩ (.slice A3 n3 c3)).setCell ⟨w.heap.size + 1, 2, none⟩ (.int .i64 (nE (-cM X e) (cE e))) = v6 at *
  have q_a0 := x_a.c0; have q_a1 := x_a.c1; have f_a0 := x_a.fr 0; have f_a1 := x_a.fr 1; have q_a2 := x_a.c2; have f_a2 := x_a.fr 2
  have q_r0 := x_r.c0; have q_r1 := x_r.c1; have f_r0 := x_r.fr 0; have f_r1 := x_r.fr 1; have q_r2 := x_r.c2; have f_r2 := x_r.fr 2
  refine bodyPost_ret (v := .agg #[.bool (ngB (od (-cM X e))), .slice A3 n3 c3, .int .i64 (nE (-cM X e) (cE e))]) (by simp [results, Tryd.results28, go_sem, q_r0, q_r1, q_r2]) rfl ?_
  exact ⟨_, _, _, rfl, z3, hb⟩

set_option maxRecDepth 100000 in
set_option maxHeartbeats 1000000 in
theorem DShift_any {b : Bool} {A : Option Addr} {n c : Nat} {X e : Int} {j : Nat} {w : World} (h : Zr w b A n c X j) (q : Int) (hT : Tab w) (k : Nat) (hk : j + 1 ≤ k) (hj : k ≤ 1000000) :
    Calls Tryd.prog 30 #[.agg #[.bool b, .slice A n c, .int .i64 e], .int .i64 q] w (OutD w (od (cM X e)) (nE (cM X e) (cE e + li q)) k) := by
  have hc := cE_in e
  have hl := li_in q
  have hwr : IntKind.i64.wrap (cE e + li q) = cE e + li q := wrap_in (by omega) (by omega)
  go_enter Tryd.func30, Tryd.ntmps30
  go_wp2_with fail
  have x_a : Dx (w.alloc (.cells #[.bool b, .slice A n c, .int .i64 e] 26)) (w.heap.size) b A n c e := by have := Dx.new w b A n c e; simpa using this
  replace x_a := x_a.alloc (.cells #[.bool false, .slice none 0 0, .int .i64 0] 26)
  have x_r : Dx ((w.alloc (.cells #[.bool b, .slice A n c, .int .i64 e] 26)).alloc (.cells #[.bool false, .slice none 0 0, .int .i64 0] 26)) (w.heap.size + 1) false none 0 0 0 := by have := Dx.new (w.alloc (.cells #[.bool b, .slice A n c, .int .i64 e] 26)) false none 0 0 0; simpa using this
  have hb : Below w.heap.size w ((w.alloc (.cells #[.bool b, .slice A n c, .int .i64 e] 26)).alloc (.cells #[.bool false, .slice none 0 0, .int .i64 0] 26)) := (Below.alloc (Below.alloc (Below.refl w.heap.size w) (by simp) (.cells #[.bool b, .slice A n c, .int .i64 e] 26)) (by simp) (.cells #[.bool false, .slice none 0 0, .int .i64 0] 26))
  generalize (w.alloc (.cells #[.bool b, .slice A n c, .int .i64 e] 26)).alloc (.cells #[.bool false, .slice none 0 0, .int .i64 0] 26) = v1 at *
  replace h := h.keep hb
  replace hT := hT.keep hb
  have q_a0 := x_a.c0; have q_a1 := x_a.c1; have f_a0 := x_a.fr 0; have f_a1 := x_a.fr 1; have q_a2 := x_a.c2; have f_a2 := x_a.fr 2
  have q_r0 := x_r.c0; have q_r1 := x_r.c1; have f_r0 := x_r.fr 0; have f_r1 := x_r.fr 1; have q_r2 := x_r.c2; have f_r2 := x_r.fr 2
  go_wp2_with fail
  with_reducible refine (read_any h).mono ?_
  rintro e v2 ⟨b1, A1, n1, c1, rfl, zc, hb1⟩
  replace x_a := x_a.keep hb1
  replace x_r := x_r.keep hb1
  replace h := h.keep hb1
  replace hT := hT.keep hb1
  replace hb := bthen hb hb1
  clear hb1
  replace q_a0 := x_a.c0; replace q_a1 := x_a.c1; replace f_a0 := x_a.fr 0; replace f_a1 := x_a.fr 1; replace q_a2 := x_a.c2; replace f_a2 := x_a.fr 2
  replace q_r0 := x_r.c0; replace q_r1 := x_r.c1; replace f_r0 := x_r.fr 0; replace f_r1 := x_r.fr 1; replace q_r2 := x_r.c2; replace f_r2 := x_r.fr 2
  clear h
  go_wp2_with fail
  replace x_r := x_r.asideD (b' := b1) (A' := A1) (n' := n1) (c' := c1) (e' := (cE e)) (g := w.heap.size) (by omega)
  replace hT := hT.putD (b' := b1) (A' := A1) (n' := n1) (c' := c1) (e' := (cE e)) x_a
  replace zc := zc.putD (b' := b1) (A' := A1) (n' := n1) (c' := c1) (e' := (cE e)) x_a
  replace hb := put_belowD (g := w.heap.size) hb (by omega) (.bool b1) (.slice A1 n1 c1) (.int .i64 (cE e))
  replace x_a := x_a.put b1 A1 n1 c1 (cE e)
  clear q_a0 q_a1 f_a0 f_a1 q_a2 f_a2 q_r0 q_r1 f_r0 f_r1 q_r2 f_r2
  generalize ((v2.setCell ⟨w.heap.size, 0, none⟩ (.bool b1)).setCell ⟨w.heap.size, 1, none⟩ (.slice A1 n1 c1)).setCell ⟨w.heap.size, 2, none⟩ (.int .i64 (cE e)) = v3 at *
  have q_a0 := x_a.c0; have q_a1 := x_a.c1; have f_a0 := x_a.fr 0; have f_a1 := x_a.fr 1; have q_a2 := x_a.c2; have f_a2 := x_a.fr 2
  have q_r0 := x_r.c0; have q_r1 := x_r.c1; have f_r0 := x_r.fr 0; have f_r1 := x_r.fr 1; have q_r2 := x_r.c2; have f_r2 := x_r.fr 2
  go_region_held3 (fun w' => w'.cell? ⟨w.heap.size, 0, none⟩ = some (.bool b1) ∧ w'.cell? ⟨w.heap.size, 1, none⟩ = some (.slice A1 n1 c1) ∧ w'.cell? ⟨w.heap.size, 2, none⟩ = some (.int .i64 (cE e)))
    (first | (with_reducible exact ⟨x_a.c0, x_a.c1, x_a.c2⟩) | (with_reducible exact ⟨(x_a.aside (by omega)).c0, (x_a.aside (by omega)).c1, (x_a.aside (by omega)).c2⟩) | (with_reducible exact ⟨((x_a.aside (by omega)).aside (by omega)).c0, ((x_a.aside (by omega)).aside (by omega)).c1, ((x_a.aside (by omega)).aside (by omega)).c2⟩) | (with_reducible exact ⟨(x_a.asideD (by omega)).c0, (x_a.asideD (by omega)).c1, (x_a.asideD (by omega)).c2⟩) | (with_reducible exact ⟨((x_a.asideD (by omega)).asideD (by omega)).c0, ((x_a.asideD (by omega)).asideD (by omega)).c1, ((x_a.asideD (by omega)).asideD (by omega)).c2⟩) | go_keep)
    (first | (go_at_call 61; (with_reducible refine (limit_bel q _).mono ?_); rintro e v4 ⟨rfl, hb1⟩; replace hb1 := undrew hb1; replace x_a := x_a.keep hb1; replace x_r := x_r.keep hb1; replace hT := hT.keep hb1; replace zc := zc.keep hb1; replace hb := bthen hb hb1; clear hb1; replace q_a0 := x_a.c0; replace q_a1 := x_a.c1; replace f_a0 := x_a.fr 0; replace f_a1 := x_a.fr 1; replace q_a2 := x_a.c2; replace f_a2 := x_a.fr 2; replace q_r0 := x_r.c0; replace q_r1 := x_r.c1; replace f_r0 := x_r.fr 0; replace f_r1 := x_r.fr 1; replace q_r2 := x_r.c2; replace f_r2 := x_r.fr 2) | (go_at_call 46; (with_reducible refine (result_any zc hT (cE e + li q) (by omega) k hk hj).mono ?_); rintro e v5 ⟨A3, n3, c3, rfl, z3, hb1⟩; replace x_a := x_a.keep hb1; replace x_r := x_r.keep hb1; replace hT := hT.keep hb1; replace zc := zc.keep hb1; replace hb := bthen hb hb1; clear hb1; replace q_a0 := x_a.c0; replace q_a1 := x_a.c1; replace f_a0 := x_a.fr 0; replace f_a1 := x_a.fr 1; replace q_a2 := x_a.c2; replace f_a2 := x_a.fr 2; replace q_r0 := x_r.c0; replace q_r1 := x_r.c1; replace f_r0 := x_r.fr 0; replace f_r1 := x_r.fr 1; replace q_r2 := x_r.c2; replace f_r2 := x_r.fr 2))
  go_wp2
  replace x_a := x_a.asideD (b' := (ngB (od (cM X e)))) (A' := A3) (n' := n3) (c' := c3) (e' := (nE (cM X e) (cE e + li q))) (g := w.heap.size + 1) (by omega)
  replace hT := hT.putD (b' := (ngB (od (cM X e)))) (A' := A3) (n' := n3) (c' := c3) (e' := (nE (cM X e) (cE e + li q))) x_r
  replace zc := zc.putD (b' := (ngB (od (cM X e)))) (A' := A3) (n' := n3) (c' := c3) (e' := (nE (cM X e) (cE e + li q))) x_r
  replace z3 := z3.putD (b' := (ngB (od (cM X e)))) (A' := A3) (n' := n3) (c' := c3) (e' := (nE (cM X e) (cE e + li q))) x_r
  replace hb := put_belowD (g := w.heap.size + 1) hb (by omega) (.bool (ngB (od (cM X e)))) (.slice A3 n3 c3) (.int .i64 (nE (cM X e) (cE e + li q)))
  replace x_r := x_r.put (ngB (od (cM X e))) A3 n3 c3 (nE (cM X e) (cE e + li q))
  clear q_a0 q_a1 f_a0 f_a1 q_a2 f_a2 q_r0 q_r1 f_r0 f_r1 q_r2 f_r2
  generalize ((v5.setCell ⟨w.heap.size + 1, 0, none⟩ (.bool (ngB (od (cM X e))))).setCell ⟨w.heap.size + 1, 1, none⟩ (.slice A3 n3 c3)).setCell ⟨w.heap.size + 1, 2, none⟩ (.int .i64 (nE (cM X e) (cE e + li q))) = v6 at *
  have q_a0 := x_a.c0; have q_a1 := x_a.c1; have f_a0 := x_a.fr 0; have f_a1 := x_a.fr 1; have q_a2 := x_a.c2; have f_a2 := x_a.fr 2
  have q_r0 := x_r.c0; have q_r1 := x_r.c1; have f_r0 := x_r.fr 0; have f_r1 := x_r.fr 1; have q_r2 := x_r.c2; have f_r2 := x_r.fr 2
  refine bodyPost_ret (v := .agg #[.bool (ngB (od (cM X e))), .slice A3 n3 c3, .int .i64 (nE (cM X e) (cE e + li q))]) (by simp [results, Tryd.results30, go_sem, q_r0, q_r1, q_r2]) rfl ?_
  exact ⟨_, _, _, rfl, z3, hb⟩

def lgI (X e : Int) : Int := if X = 0 then 0 else e + bl X.natAbs - 1
def lgB (X : Int) : Bool := decide (X ≠ 0)
set_option maxRecDepth 100000 in
set_option maxHeartbeats 1000000 in
theorem DLog_any {b : Bool} {A : Option Addr} {n c : Nat} {X e : Int} {j : Nat} {w : World} (h : Zr w b A n c X j) (hj : j ≤ 1000000) :
    Calls Tryd.prog 16 #[.agg #[.bool b, .slice A n c, .int .i64 e]] w fun en w' => en = .returned (.tuple #[.int .i64 (lgI (cM X e) (cE e)), .bool (lgB (cM X e))]) ∧ Below w.heap.size w w' := by
  have hc := cE_in e
  have hsg := sgnI_is (cM X e)
  by_cases hX : cM X e = 0
  · have hs0 := sgnI_eq0.2 hX
    have hfin : lgI (cM X e) (cE e) = 0 ∧ lgB (cM X e) = false := ⟨by unfold lgI; rw [if_pos hX], by unfold lgB; simp [hX]⟩
    have HS := Lib.hid hs0; have HF := Lib.hid hfin; clear hs0 hX hsg hfin
    go_enter Tryd.func16, Tryd.ntmps16
    go_wp2_with fail
    have x_a : Dx (w.alloc (.cells #[.bool b, .slice A n c, .int .i64 e] 26)) (w.heap.size) b A n c e := by have := Dx.new w b A n c e; simpa using this
    have hb : Below w.heap.size w (w.alloc (.cells #[.bool b, .slice A n c, .int .i64 e] 26)) := (Below.alloc (Below.refl w.heap.size w) (by simp) (.cells #[.bool b, .slice A n c, .int .i64 e] 26))
    generalize w.alloc (.cells #[.bool b, .slice A n c, .int .i64 e] 26) = v1 at *
    replace h := h.keep hb
    have q_a0 := x_a.c0; have q_a1 := x_a.c1; have f_a0 := x_a.fr 0; have f_a1 := x_a.fr 1; have q_a2 := x_a.c2; have f_a2 := x_a.fr 2
    go_wp2_with fail
    with_reducible refine (read_any h).mono ?_
    rintro e v2 ⟨b1, A1, n1, c1, rfl, zc, hb1⟩
    replace x_a := x_a.keep hb1
    replace h := h.keep hb1
    replace hb := bthen hb hb1
    clear hb1
    replace q_a0 := x_a.c0; replace q_a1 := x_a.c1; replace f_a0 := x_a.fr 0; replace f_a1 := x_a.fr 1; replace q_a2 := x_a.c2; replace f_a2 := x_a.fr 2
    clear h
    go_wp2_with fail
    replace zc := zc.putD (b' := b1) (A' := A1) (n' := n1) (c' := c1) (e' := (cE e)) x_a
    replace hb := put_belowD (g := w.heap.size) hb (by omega) (.bool b1) (.slice A1 n1 c1) (.int .i64 (cE e))
    replace x_a := x_a.put b1 A1 n1 c1 (cE e)
    clear q_a0 q_a1 f_a0 f_a1 q_a2 f_a2
    generalize ((v2.setCell ⟨w.heap.size, 0, none⟩ (.bool b1)).setCell ⟨w.heap.size, 1, none⟩ (.slice A1 n1 c1)).setCell ⟨w.heap.size, 2, none⟩ (.int .i64 (cE e)) = v3 at *
    have q_a0 := x_a.c0; have q_a1 := x_a.c1; have f_a0 := x_a.fr 0; have f_a1 := x_a.fr 1; have q_a2 := x_a.c2; have f_a2 := x_a.fr 2
    with_reducible refine (ZSign_any zc hj).mono ?_
    rintro e v4 ⟨rfl, hb1⟩
    replace x_a := x_a.keep hb1
    replace zc := zc.keep hb1
    replace hb := bthen hb hb1
    clear hb1
    replace q_a0 := x_a.c0; replace q_a1 := x_a.c1; replace f_a0 := x_a.fr 0; replace f_a1 := x_a.fr 1; replace q_a2 := x_a.c2; replace f_a2 := x_a.fr 2
    rw [HS.out]
    go_wp2
    go_ret2
    exact ⟨tup_ib HF.out.1.symm HF.out.2.symm, hb⟩
  · have hs0 : (sgnI (cM X e) == 0) = false := by rw [beq_eq_false_iff_ne]; exact fun h0 => hX (sgnI_eq0.1 h0)
    have hfin : lgI (cM X e) (cE e) = bl (cM X e).natAbs - 1 + cE e ∧ lgB (cM X e) = true := ⟨by unfold lgI; rw [if_neg hX]; omega, by unfold lgB; simp [hX]⟩
    have HF := Lib.hid hfin; clear hX hfin
    go_enter Tryd.func16, Tryd.ntmps16
    go_wp2_with fail
    have x_a : Dx (w.alloc (.cells #[.bool b, .slice A n c, .int .i64 e] 26)) (w.heap.size) b A n c e := by have := Dx.new w b A n c e; simpa using this
    have hb : Below w.heap.size w (w.alloc (.cells #[.bool b, .slice A n c, .int .i64 e] 26)) := (Below.alloc (Below.refl w.heap.size w) (by simp) (.cells #[.bool b, .slice A n c, .int .i64 e] 26))
    generalize w.alloc (.cells #[.bool b, .slice A n c, .int .i64 e] 26) = v1 at *
    replace h := h.keep hb
    have q_a0 := x_a.c0; have q_a1 := x_a.c1; have f_a0 := x_a.fr 0; have f_a1 := x_a.fr 1; have q_a2 := x_a.c2; have f_a2 := x_a.fr 2
    go_wp2_with fail
    with_reducible refine (read_any h).mono ?_
    rintro e v2 ⟨b1, A1, n1, c1, rfl, zc, hb1⟩
    replace x_a := x_a.keep hb1
    replace h := h.keep hb1
    replace hb := bthen hb hb1
    clear hb1
    replace q_a0 := x_a.c0; replace q_a1 := x_a.c1; replace f_a0 := x_a.fr 0; replace f_a1 := x_a.fr 1; replace q_a2 := x_a.c2; replace f_a2 := x_a.fr 2
    clear h
    go_wp2_with fail
    replace zc := zc.putD (b' := b1) (A' := A1) (n' := n1) (c' := c1) (e' := (cE e)) x_a
    replace hb := put_belowD (g := w.heap.size) hb (by omega) (.bool b1) (.slice A1 n1 c1) (.int .i64 (cE e))
    replace x_a := x_a.put b1 A1 n1 c1 (cE e)
    clear q_a0 q_a1 f_a0 f_a1 q_a2 f_a2
    generalize ((v2.setCell ⟨w.heap.size, 0, none⟩ (.bool b1)).setCell ⟨w.heap.size, 1, none⟩ (.slice A1 n1 c1)).setCell ⟨w.heap.size, 2, none⟩ (.int .i64 (cE e)) = v3 at *
    have q_a0 := x_a.c0; have q_a1 := x_a.c1; have f_a0 := x_a.fr 0; have f_a1 := x_a.fr 1; have q_a2 := x_a.c2; have f_a2 := x_a.fr 2
    with_reducible refine (ZSign_any zc hj).mono ?_
    rintro e v4 ⟨rfl, hb1⟩
    replace x_a := x_a.keep hb1
    replace zc := zc.keep hb1
    replace hb := bthen hb hb1
    clear hb1
    replace q_a0 := x_a.c0; replace q_a1 := x_a.c1; replace f_a0 := x_a.fr 0; replace f_a1 := x_a.fr 1; replace q_a2 := x_a.c2; replace f_a2 := x_a.fr 2
    generalize sgnI (cM X e) = sg at *
    obtain ⟨l9, r9, hz9, hn9⟩ := id zc
    have hbl := bl_bound r9.lim r9.len rfl
    have hna : (cM X e).natAbs = vl Wd l9 := by rw [← hz9, zi_abs]
    rw [← hna] at hbl
    clear r9 hz9 hna
    generalize hbe : bl (cM X e).natAbs = β at *
    have HBE := Lib.hid hbe; clear hbe
    have hw1 : IntKind.i64.wrap ((β : Int) - 1) = β - 1 := wrap_in (by omega) (by omega)
    have hw2 : IntKind.i64.wrap ((β : Int) - 1 + cE e) = β - 1 + cE e := wrap_in (by omega) (by omega)
    go_wp2_with fail
    go_region_held3 (fun w' => w'.cell? ⟨w.heap.size, 0, none⟩ = some (.bool b1) ∧ w'.cell? ⟨w.heap.size, 1, none⟩ = some (.slice A1 n1 c1) ∧ w'.cell? ⟨w.heap.size, 2, none⟩ = some (.int .i64 (cE e)))
      (first | (with_reducible exact ⟨x_a.c0, x_a.c1, x_a.c2⟩) | (with_reducible exact ⟨(x_a.aside (by omega)).c0, (x_a.aside (by omega)).c1, (x_a.aside (by omega)).c2⟩) | (with_reducible exact ⟨((x_a.aside (by omega)).aside (by omega)).c0, ((x_a.aside (by omega)).aside (by omega)).c1, ((x_a.aside (by omega)).aside (by omega)).c2⟩) | (with_reducible exact ⟨(x_a.asideD (by omega)).c0, (x_a.asideD (by omega)).c1, (x_a.asideD (by omega)).c2⟩) | (with_reducible exact ⟨((x_a.asideD (by omega)).asideD (by omega)).c0, ((x_a.asideD (by omega)).asideD (by omega)).c1, ((x_a.asideD (by omega)).asideD (by omega)).c2⟩) | go_keep)
      (first | (go_at_call 48; (with_reducible refine (ZBitLen_any zc.drw).mono ?_); rintro e v5 ⟨rfl, hb1⟩; replace hb1 := undrew hb1; replace x_a := x_a.keep hb1; replace zc := zc.keep hb1; replace hb := bthen hb hb1; clear hb1; replace q_a0 := x_a.c0; replace q_a1 := x_a.c1; replace f_a0 := x_a.fr 0; replace f_a1 := x_a.fr 1; replace q_a2 := x_a.c2; replace f_a2 := x_a.fr 2; rw [HBE.out]))
    go_wp2
    go_ret2
    exact ⟨tup_ib HF.out.1.symm HF.out.2.symm, hb⟩

set_option maxRecDepth 100000 in
set_option maxHeartbeats 1000000 in
theorem floorShift_any {b : Bool} {A : Option Addr} {n c : Nat} {X : Int} {j : Nat} {w : World} (h : Zr w b A n c X j) (q : Int) (hq : -8000 ≤ q ∧ q ≤ 8000) (k : Nat) (hk : j + 128 ≤ k) (hj : k ≤ 1000000) :
    Calls Tryd.prog 64 #[.agg #[.bool b, .slice A n c], .int .i64 q] w (OutZ w (flI X q) k) := by
  by_cases hq0 : q < 0
  · have hv : X / 2 ^ sc (-q) = flI X q := by unfold flI; rw [if_pos hq0, sc_toNat (by omega) (by omega)]
    have HV := Lib.hid hv; clear hv
    go_enter Tryd.func64, Tryd.ntmps64
    go_wp2_with fail
    have x_m : Bx (w.alloc (.cells #[.bool b, .slice A n c] 24)) (w.heap.size) b A n c := by have := Bx.new w b A n c; simpa using this
    replace x_m := x_m.alloc (.cells #[.bool false, .slice none 0 0] 24)
    have x_r : Bx ((w.alloc (.cells #[.bool b, .slice A n c] 24)).alloc (.cells #[.bool false, .slice none 0 0] 24)) (w.heap.size + 1) false none 0 0 := by have := Bx.new (w.alloc (.cells #[.bool b, .slice A n c] 24)) false none 0 0; simpa using this
    have hb : Below w.heap.size w ((w.alloc (.cells #[.bool b, .slice A n c] 24)).alloc (.cells #[.bool false, .slice none 0 0] 24)) := (Below.alloc (Below.alloc (Below.refl w.heap.size w) (by simp) (.cells #[.bool b, .slice A n c] 24)) (by simp) (.cells #[.bool false, .slice none 0 0] 24))
    generalize (w.alloc (.cells #[.bool b, .slice A n c] 24)).alloc (.cells #[.bool false, .slice none 0 0] 24) = v1 at *
    replace h := h.keep hb
    have q_m0 := x_m.c0; have q_m1 := x_m.c1; have f_m0 := x_m.fr 0; have f_m1 := x_m.fr 1
    have q_r0 := x_r.c0; have q_r1 := x_r.c1; have f_r0 := x_r.fr 0; have f_r1 := x_r.fr 1
    go_wp2_with fail
    with_reducible refine (ZShr_any h (-q) k (by omega) hj).mono ?_
    rintro e v2 ⟨A3, n3, c3, rfl, z3, hb1⟩
    replace x_m := x_m.keep hb1
    replace x_r := x_r.keep hb1
    replace h := h.keep hb1
    replace hb := bthen hb hb1
    clear hb1
    replace q_m0 := x_m.c0; replace q_m1 := x_m.c1; replace f_m0 := x_m.fr 0; replace f_m1 := x_m.fr 1
    replace q_r0 := x_r.c0; replace q_r1 := x_r.c1; replace f_r0 := x_r.fr 0; replace f_r1 := x_r.fr 1
    rw [HV.out] at z3 ⊢
    go_wp2
    replace x_m := x_m.aside (b' := (ngB (flI X q))) (A' := A3) (n' := n3) (c' := c3) (g := w.heap.size + 1) (by omega)
    replace h := h.put (b' := (ngB (flI X q))) (A' := A3) (n' := n3) (c' := c3) x_r
    replace z3 := z3.put (b' := (ngB (flI X q))) (A' := A3) (n' := n3) (c' := c3) x_r
    replace hb := put_below (g := w.heap.size + 1) hb (by omega) (.bool (ngB (flI X q))) (.slice A3 n3 c3)
    replace x_r := x_r.put (ngB (flI X q)) A3 n3 c3
    clear q_m0 q_m1 f_m0 f_m1 q_r0 q_r1 f_r0 f_r1
    generalize (v2.setCell ⟨w.heap.size + 1, 0, none⟩ (.bool (ngB (flI X q)))).setCell ⟨w.heap.size + 1, 1, none⟩ (.slice A3 n3 c3) = v3 at *
    have q_m0 := x_m.c0; have q_m1 := x_m.c1; have f_m0 := x_m.fr 0; have f_m1 := x_m.fr 1
    have q_r0 := x_r.c0; have q_r1 := x_r.c1; have f_r0 := x_r.fr 0; have f_r1 := x_r.fr 1
    refine bodyPost_ret (v := .agg #[.bool (ngB (flI X q)), .slice A3 n3 c3]) (by simp [results, Tryd.results64, go_sem, q_r0, q_r1]) rfl ?_
    exact ⟨_, _, _, rfl, z3, hb⟩
  · have hv : X * 2 ^ sc q = flI X q := by unfold flI; rw [if_neg hq0, sc_toNat (by omega) (by omega)]
    have HV := Lib.hid hv; clear hv
    go_enter Tryd.func64, Tryd.ntmps64
    go_wp2_with fail
    have x_m : Bx (w.alloc (.cells #[.bool b, .slice A n c] 24)) (w.heap.size) b A n c := by have := Bx.new w b A n c; simpa using this
    replace x_m := x_m.alloc (.cells #[.bool false, .slice none 0 0] 24)
    have x_r : Bx ((w.alloc (.cells #[.bool b, .slice A n c] 24)).alloc (.cells #[.bool false, .slice none 0 0] 24)) (w.heap.size + 1) false none 0 0 := by have := Bx.new (w.alloc (.cells #[.bool b, .slice A n c] 24)) false none 0 0; simpa using this
    have hb : Below w.heap.size w ((w.alloc (.cells #[.bool b, .slice A n c] 24)).alloc (.cells #[.bool false, .slice none 0 0] 24)) := (Below.alloc (Below.alloc (Below.refl w.heap.size w) (by simp) (.cells #[.bool b, .slice A n c] 24)) (by simp) (.cells #[.bool false, .slice none 0 0] 24))
    generalize (w.alloc (.cells #[.bool b, .slice A n c] 24)).alloc (.cells #[.bool false, .slice none 0 0] 24) = v1 at *
    replace h := h.keep hb
    have q_m0 := x_m.c0; have q_m1 := x_m.c1; have f_m0 := x_m.fr 0; have f_m1 := x_m.fr 1
    have q_r0 := x_r.c0; have q_r1 := x_r.c1; have f_r0 := x_r.fr 0; have f_r1 := x_r.fr 1
    go_wp2_with fail
    with_reducible refine (ZShl_any h q k hk hj).mono ?_
    rintro e v2 ⟨A3, n3, c3, rfl, z3, hb1⟩
    replace x_m := x_m.keep hb1
    replace x_r := x_r.keep hb1
    replace h := h.keep hb1
    replace hb := bthen hb hb1
    clear hb1
    replace q_m0 := x_m.c0; replace q_m1 := x_m.c1; replace f_m0 := x_m.fr 0; replace f_m1 := x_m.fr 1
    replace q_r0 := x_r.c0; replace q_r1 := x_r.c1; replace f_r0 := x_r.fr 0; replace f_r1 := x_r.fr 1
    rw [HV.out] at z3 ⊢
    go_wp2
    replace x_m := x_m.aside (b' := (ngB (flI X q))) (A' := A3) (n' := n3) (c' := c3) (g := w.heap.size + 1) (by omega)
    replace h := h.put (b' := (ngB (flI X q))) (A' := A3) (n' := n3) (c' := c3) x_r
    replace z3 := z3.put (b' := (ngB (flI X q))) (A' := A3) (n' := n3) (c' := c3) x_r
    replace hb := put_below (g := w.heap.size + 1) hb (by omega) (.bool (ngB (flI X q))) (.slice A3 n3 c3)
    replace x_r := x_r.put (ngB (flI X q)) A3 n3 c3
    clear q_m0 q_m1 f_m0 f_m1 q_r0 q_r1 f_r0 f_r1
    generalize (v2.setCell ⟨w.heap.size + 1, 0, none⟩ (.bool (ngB (flI X q)))).setCell ⟨w.heap.size + 1, 1, none⟩ (.slice A3 n3 c3) = v3 at *
    have q_m0 := x_m.c0; have q_m1 := x_m.c1; have f_m0 := x_m.fr 0; have f_m1 := x_m.fr 1
    have q_r0 := x_r.c0; have q_r1 := x_r.c1; have f_r0 := x_r.fr 0; have f_r1 := x_r.fr 1
    refine bodyPost_ret (v := .agg #[.bool (ngB (flI X q)), .slice A3 n3 c3]) (by simp [results, Tryd.results64, go_sem, q_r0, q_r1]) rfl ?_
    exact ⟨_, _, _, rfl, z3, hb⟩

set_option maxRecDepth 100000 in
set_option maxHeartbeats 1000000 in
theorem DFloor_any {b : Bool} {A : Option Addr} {n c : Nat} {X e : Int} {j : Nat} {w : World} (h : Zr w b A n c X j) (q : Int) (k : Nat) (hk : j + 128 ≤ k) (hj : k ≤ 1000000) :
    Calls Tryd.prog 33 #[.agg #[.bool b, .slice A n c, .int .i64 e], .int .i64 q] w (OutZ w (flI (cM X e) (cE e + li q)) k) := by
  have hc := cE_in e
  have hl := li_in q
  have hwr : IntKind.i64.wrap (cE e + li q) = cE e + li q := wrap_in (by omega) (by omega)
  go_enter Tryd.func33, Tryd.ntmps33
  go_wp2_with fail
  have x_a : Dx (w.alloc (.cells #[.bool b, .slice A n c, .int .i64 e] 26)) (w.heap.size) b A n c e := by have := Dx.new w b A n c e; simpa using this
  replace x_a := x_a.alloc (.cells #[.bool false, .slice none 0 0] 24)
  have x_r : Bx ((w.alloc (.cells #[.bool b, .slice A n c, .int .i64 e] 26)).alloc (.cells #[.bool false, .slice none 0 0] 24)) (w.heap.size + 1) false none 0 0 := by have := Bx.new (w.alloc (.cells #[.bool b, .slice A n c, .int .i64 e] 26)) false none 0 0; simpa using this
  have hb : Below w.heap.size w ((w.alloc (.cells #[.bool b, .slice A n c, .int .i64 e] 26)).alloc (.cells #[.bool false, .slice none 0 0] 24)) := (Below.alloc (Below.alloc (Below.refl w.heap.size w) (by simp) (.cells #[.bool b, .slice A n c, .int .i64 e] 26)) (by simp) (.cells #[.bool false, .slice none 0 0] 24))
  generalize (w.alloc (.cells #[.bool b, .slice A n c, .int .i64 e] 26)).alloc (.cells #[.bool false, .slice none 0 0] 24) = v1 at *
  replace h := h.keep hb
  have q_a0 := x_a.c0; have q_a1 := x_a.c1; have f_a0 := x_a.fr 0; have f_a1 := x_a.fr 1; have q_a2 := x_a.c2; have f_a2 := x_a.fr 2
  have q_r0 := x_r.c0; have q_r1 := x_r.c1; have f_r0 := x_r.fr 0; have f_r1 := x_r.fr 1
  go_wp2_with fail
  with_reducible refine (read_any h).mono ?_
  rintro e v2 ⟨b1, A1, n1, c1, rfl, zc, hb1⟩
  replace x_a := x_a.keep hb1
  replace x_r := x_r.keep hb1
  replace h := h.keep hb1
  replace hb := bthen hb hb1
  clear hb1
  replace q_a0 := x_a.c0; replace q_a1 := x_a.c1; replace f_a0 := x_a.fr 0; replace f_a1 := x_a.fr 1; replace q_a2 := x_a.c2; replace f_a2 := x_a.fr 2
  replace q_r0 := x_r.c0; replace q_r1 := x_r.c1; replace f_r0 := x_r.fr 0; replace f_r1 := x_r.fr 1
  clear h
  go_wp2_with fail
  replace x_r := x_r.asideD (b' := b1) (A' := A1) (n' := n1) (c' := c1) (e' := (cE e)) (g := w.heap.size) (by omega)
  replace zc := zc.putD (b' := b1) (A' := A1) (n' := n1) (c' := c1) (e' := (cE e)) x_a
  replace hb := put_belowD (g := w.heap.size) hb (by omega) (.bool b1) (.slice A1 n1 c1) (.int .i64 (cE e))
  replace x_a := x_a.put b1 A1 n1 c1 (cE e)
  clear q_a0 q_a1 f_a0 f_a1 q_a2 f_a2 q_r0 q_r1 f_r0 f_r1
  generalize ((v2.setCell ⟨w.heap.size, 0, none⟩ (.bool b1)).setCell ⟨w.heap.size, 1, none⟩ (.slice A1 n1 c1)).setCell ⟨w.heap.size, 2, none⟩ (.int .i64 (cE e)) = v3 at *
  have q_a0 := x_a.c0; have q_a1 := x_a.c1; have f_a0 := x_a.fr 0; have f_a1 := x_a.fr 1; have q_a2 := x_a.c2; have f_a2 := x_a.fr 2
  have q_r0 := x_r.c0; have q_r1 := x_r.c1; have f_r0 := x_r.fr 0; have f_r1 := x_r.fr 1
  go_region_held3 (fun w' => w'.cell? ⟨w.heap.size, 0, none⟩ = some (.bool b1) ∧ w'.cell? ⟨w.heap.size, 1, none⟩ = some (.slice A1 n1 c1) ∧ w'.cell? ⟨w.heap.size, 2, none⟩ = some (.int .i64 (cE e)))
    (first | (with_reducible exact ⟨x_a.c0, x_a.c1, x_a.c2⟩) | (with_reducible exact ⟨(x_a.aside (by omega)).c0, (x_a.aside (by omega)).c1, (x_a.aside (by omega)).c2⟩) | (with_reducible exact ⟨((x_a.aside (by omega)).aside (by omega)).c0, ((x_a.aside (by omega)).aside (by omega)).c1, ((x_a.aside (by omega)).aside (by omega)).c2⟩) | (with_reducible exact ⟨(x_a.asideD (by omega)).c0, (x_a.asideD (by omega)).c1, (x_a.asideD (by omega)).c2⟩) | (with_reducible exact ⟨((x_a.asideD (by omega)).asideD (by omega)).c0, ((x_a.asideD (by omega)).asideD (by omega)).c1, ((x_a.asideD (by omega)).asideD (by omega)).c2⟩) | go_keep)
    (first | (go_at_call 61; (with_reducible refine (limit_bel q _).mono ?_); rintro e v4 ⟨rfl, hb1⟩; replace hb1 := undrew hb1; replace x_a := x_a.keep hb1; replace x_r := x_r.keep hb1; replace zc := zc.keep hb1; replace hb := bthen hb hb1; clear hb1; replace q_a0 := x_a.c0; replace q_a1 := x_a.c1; replace f_a0 := x_a.fr 0; replace f_a1 := x_a.fr 1; replace q_a2 := x_a.c2; replace f_a2 := x_a.fr 2; replace q_r0 := x_r.c0; replace q_r1 := x_r.c1; replace f_r0 := x_r.fr 0; replace f_r1 := x_r.fr 1) | (go_at_call 64; (with_reducible refine (floorShift_any zc (cE e + li q) (by omega) k hk hj).mono ?_); rintro e v5 ⟨A3, n3, c3, rfl, z3, hb1⟩; replace x_a := x_a.keep hb1; replace x_r := x_r.keep hb1; replace zc := zc.keep hb1; replace hb := bthen hb hb1; clear hb1; replace q_a0 := x_a.c0; replace q_a1 := x_a.c1; replace f_a0 := x_a.fr 0; replace f_a1 := x_a.fr 1; replace q_a2 := x_a.c2; replace f_a2 := x_a.fr 2; replace q_r0 := x_r.c0; replace q_r1 := x_r.c1; replace f_r0 := x_r.fr 0; replace f_r1 := x_r.fr 1))
  go_wp2
  replace x_a := x_a.aside (b' := (ngB (flI (cM X e) (cE e + li q)))) (A' := A3) (n' := n3) (c' := c3) (g := w.heap.size + 1) (by omega)
  replace zc := zc.put (b' := (ngB (flI (cM X e) (cE e + li q)))) (A' := A3) (n' := n3) (c' := c3) x_r
  replace z3 := z3.put (b' := (ngB (flI (cM X e) (cE e + li q)))) (A' := A3) (n' := n3) (c' := c3) x_r
  replace hb := put_below (g := w.heap.size + 1) hb (by omega) (.bool (ngB (flI (cM X e) (cE e + li q)))) (.slice A3 n3 c3)
  replace x_r := x_r.put (ngB (flI (cM X e) (cE e + li q))) A3 n3 c3
  clear q_a0 q_a1 f_a0 f_a1 q_a2 f_a2 q_r0 q_r1 f_r0 f_r1
  generalize (v5.setCell ⟨w.heap.size + 1, 0, none⟩ (.bool (ngB (flI (cM X e) (cE e + li q))))).setCell ⟨w.heap.size + 1, 1, none⟩ (.slice A3 n3 c3) = v6 at *
  have q_a0 := x_a.c0; have q_a1 := x_a.c1; have f_a0 := x_a.fr 0; have f_a1 := x_a.fr 1; have q_a2 := x_a.c2; have f_a2 := x_a.fr 2
  have q_r0 := x_r.c0; have q_r1 := x_r.c1; have f_r0 := x_r.fr 0; have f_r1 := x_r.fr 1
  refine bodyPost_ret (v := .agg #[.bool (ngB (flI (cM X e) (cE e + li q))), .slice A3 n3 c3]) (by simp [results, Tryd.results33, go_sem, q_r0, q_r1]) rfl ?_
  exact ⟨_, _, _, rfl, z3, hb⟩

set_option maxRecDepth 100000 in
set_option maxHeartbeats 1000000 in
theorem DCeil_any {b : Bool} {A : Option Addr} {n c : Nat} {X e : Int} {j : Nat} {w : World} (h : Zr w b A n c X j) (q : Int) (k : Nat) (hk : j + 128 ≤ k) (hj : k ≤ 1000000) :
    Calls Tryd.prog 35 #[.agg #[.bool b, .slice A n c, .int .i64 e], .int .i64 q] w (OutZ w (-flI (-cM X e) (cE e + li q)) k) := by
  have hc := cE_in e
  have hl := li_in q
  have hwr : IntKind.i64.wrap (cE e + li q) = cE e + li q := wrap_in (by omega) (by omega)
  go_enter Tryd.func35, Tryd.ntmps35
  go_wp2_with fail
  have x_a : Dx (w.alloc (.cells #[.bool b, .slice A n c, .int .i64 e] 26)) (w.heap.size) b A n c e := by have := Dx.new w b A n c e; simpa using this
  replace x_a := x_a.alloc (.cells #[.bool false, .slice none 0 0] 24)
  have x_r : Bx ((w.alloc (.cells #[.bool b, .slice A n c, .int .i64 e] 26)).alloc (.cells #[.bool false, .slice none 0 0] 24)) (w.heap.size + 1) false none 0 0 := by have := Bx.new (w.alloc (.cells #[.bool b, .slice A n c, .int .i64 e] 26)) false none 0 0; simpa using this
  have hb : Below w.heap.size w ((w.alloc (.cells #[.bool b, .slice A n c, .int .i64 e] 26)).alloc (.cells #[.bool false, .slice none 0 0] 24)) := (Below.alloc (Below.alloc (Below.refl w.heap.size w) (by simp) (.cells #[.bool b, .slice A n c, .int .i64 e] 26)) (by simp) (.cells #[.bool false, .slice none 0 0] 24))
  generalize (w.alloc (.cells #[.bool b, .slice A n c, .int .i64 e] 26)).alloc (.cells #[.bool false, .slice none 0 0] 24) = v1 at *
  replace h := h.keep hb
  have q_a0 := x_a.c0; have q_a1 := x_a.c1; have f_a0 := x_a.fr 0; have f_a1 := x_a.fr 1; have q_a2 := x_a.c2; have f_a2 := x_a.fr 2
  have q_r0 := x_r.c0; have q_r1 := x_r.c1; have f_r0 := x_r.fr 0; have f_r1 := x_r.fr 1
  go_wp2_with fail
  with_reducible refine (read_any h).mono ?_
  rintro e v2 ⟨b1, A1, n1, c1, rfl, zc, hb1⟩
  replace x_a := x_a.keep hb1
  replace x_r := x_r.keep hb1
  replace h := h.keep hb1
  replace hb := bthen hb hb1
  clear hb1
  replace q_a0 := x_a.c0; replace q_a1 := x_a.c1; replace f_a0 := x_a.fr 0; replace f_a1 := x_a.fr 1; replace q_a2 := x_a.c2; replace f_a2 := x_a.fr 2
  replace q_r0 := x_r.c0; replace q_r1 := x_r.c1; replace f_r0 := x_r.fr 0; replace f_r1 := x_r.fr 1
  clear h
  go_wp2_with fail
  replace x_r := x_r.asideD (b' := b1) (A' := A1) (n' := n1) (c' := c1) (e' := (cE e)) (g := w.heap.size) (by omega)
  replace zc := zc.putD (b' := b1) (A' := A1) (n' := n1) (c' := c1) (e' := (cE e)) x_a
  replace hb := put_belowD (g := w.heap.size) hb (by omega) (.bool b1) (.slice A1 n1 c1) (.int .i64 (cE e))
  replace x_a := x_a.put b1 A1 n1 c1 (cE e)
  clear q_a0 q_a1 f_a0 f_a1 q_a2 f_a2 q_r0 q_r1 f_r0 f_r1
  generalize ((v2.setCell ⟨w.heap.size, 0, none⟩ (.bool b1)).setCell ⟨w.heap.size, 1, none⟩ (.slice A1 n1 c1)).setCell ⟨w.heap.size, 2, none⟩ (.int .i64 (cE e)) = v3 at *
  have q_a0 := x_a.c0; have q_a1 := x_a.c1; have f_a0 := x_a.fr 0; have f_a1 := x_a.fr 1; have q_a2 := x_a.c2; have f_a2 := x_a.fr 2
  have q_r0 := x_r.c0; have q_r1 := x_r.c1; have f_r0 := x_r.fr 0; have f_r1 := x_r.fr 1
  go_region_held3 (fun w' => w'.cell? ⟨w.heap.size, 0, none⟩ = some (.bool b1) ∧ w'.cell? ⟨w.heap.size, 1, none⟩ = some (.slice A1 n1 c1) ∧ w'.cell? ⟨w.heap.size, 2, none⟩ = some (.int .i64 (cE e)))
    (first | (with_reducible exact ⟨x_a.c0, x_a.c1, x_a.c2⟩) | (with_reducible exact ⟨(x_a.aside (by omega)).c0, (x_a.aside (by omega)).c1, (x_a.aside (by omega)).c2⟩) | (with_reducible exact ⟨((x_a.aside (by omega)).aside (by omega)).c0, ((x_a.aside (by omega)).aside (by omega)).c1, ((x_a.aside (by omega)).aside (by omega)).c2⟩) | (with_reducible exact ⟨(x_a.asideD (by omega)).c0, (x_a.asideD (by omega)).c1, (x_a.asideD (by omega)).c2⟩) | (with_reducible exact ⟨((x_a.asideD (by omega)).asideD (by omega)).c0, ((x_a.asideD (by omega)).asideD (by omega)).c1, ((x_a.asideD (by omega)).asideD (by omega)).c2⟩) | go_keep)
    (first | (go_at_call 59; (with_reducible refine (ZNeg_any zc.drw j (Nat.le_refl _)).mono ?_); rintro e v4 ⟨A2, n2, c2, rfl, z1, hb1⟩; replace hb1 := undrew hb1; replace x_a := x_a.keep hb1; replace x_r := x_r.keep hb1; replace zc := zc.keep hb1; replace hb := bthen hb hb1; clear hb1; replace q_a0 := x_a.c0; replace q_a1 := x_a.c1; replace f_a0 := x_a.fr 0; replace f_a1 := x_a.fr 1; replace q_a2 := x_a.c2; replace f_a2 := x_a.fr 2; replace q_r0 := x_r.c0; replace q_r1 := x_r.c1; replace f_r0 := x_r.fr 0; replace f_r1 := x_r.fr 1) | (go_at_call 61; (with_reducible refine (limit_bel q _).mono ?_); rintro e v5 ⟨rfl, hb1⟩; replace x_a := x_a.keep hb1; replace x_r := x_r.keep hb1; replace zc := zc.keep hb1; replace z1 := z1.keep hb1; replace hb := bthen hb hb1; clear hb1; replace q_a0 := x_a.c0; replace q_a1 := x_a.c1; replace f_a0 := x_a.fr 0; replace f_a1 := x_a.fr 1; replace q_a2 := x_a.c2; replace f_a2 := x_a.fr 2; replace q_r0 := x_r.c0; replace q_r1 := x_r.c1; replace f_r0 := x_r.fr 0; replace f_r1 := x_r.fr 1) | (go_at_call 64; (with_reducible refine (floorShift_any z1.zr (cE e + li q) (by omega) k hk hj).mono ?_); rintro e v6 ⟨A3, n3, c3, rfl, z3, hb1⟩; replace x_a := x_a.keep hb1; replace x_r := x_r.keep hb1; replace zc := zc.keep hb1; replace z1 := z1.keep hb1; replace hb := bthen hb hb1; clear hb1; replace q_a0 := x_a.c0; replace q_a1 := x_a.c1; replace f_a0 := x_a.fr 0; replace f_a1 := x_a.fr 1; replace q_a2 := x_a.c2; replace f_a2 := x_a.fr 2; replace q_r0 := x_r.c0; replace q_r1 := x_r.c1; replace f_r0 := x_r.fr 0; replace f_r1 := x_r.fr 1) | (go_at_call 59; (with_reducible refine (ZNeg_any z3.zr k (Nat.le_refl _)).mono ?_); rintro e v7 ⟨A4, n4, c4, rfl, z4, hb1⟩; replace x_a := x_a.keep hb1; replace x_r := x_r.keep hb1; replace zc := zc.keep hb1; replace z1 := z1.keep hb1; replace z3 := z3.keep hb1; replace hb := bthen hb hb1; clear hb1; replace q_a0 := x_a.c0; replace q_a1 := x_a.c1; replace f_a0 := x_a.fr 0; replace f_a1 := x_a.fr 1; replace q_a2 := x_a.c2; replace f_a2 := x_a.fr 2; replace q_r0 := x_r.c0; replace q_r1 := x_r.c1; replace f_r0 := x_r.fr 0; replace f_r1 := x_r.fr 1))
  go_wp2
  replace x_a := x_a.aside (b' := (ngB (-flI (-cM X e) (cE e + li q)))) (A' := A4) (n' := n4) (c' := c4) (g := w.heap.size + 1) (by omega)
  replace zc := zc.put (b' := (ngB (-flI (-cM X e) (cE e + li q)))) (A' := A4) (n' := n4) (c' := c4) x_r
  replace z1 := z1.put (b' := (ngB (-flI (-cM X e) (cE e + li q)))) (A' := A4) (n' := n4) (c' := c4) x_r
  replace z3 := z3.put (b' := (ngB (-flI (-cM X e) (cE e + li q)))) (A' := A4) (n' := n4) (c' := c4) x_r
  replace z4 := z4.put (b' := (ngB (-flI (-cM X e) (cE e + li q)))) (A' := A4) (n' := n4) (c' := c4) x_r
  replace hb := put_below (g := w.heap.size + 1) hb (by omega) (.bool (ngB (-flI (-cM X e) (cE e + li q)))) (.slice A4 n4 c4)
  replace x_r := x_r.put (ngB (-flI (-cM X e) (cE e + li q))) A4 n4 c4
  clear q_a0 q_a1 f_a0 f_a1 q_a2 f_a2 q_r0 q_r1 f_r0 f_r1
  generalize (v7.setCell ⟨w.heap.size + 1, 0, none⟩ (.bool (ngB (-flI (-cM X e) (cE e + li q))))).setCell ⟨w.heap.size + 1, 1, none⟩ (.slice A4 n4 c4) = v8 at *
  have q_a0 := x_a.c0; have q_a1 := x_a.c1; have f_a0 := x_a.fr 0; have f_a1 := x_a.fr 1; have q_a2 := x_a.c2; have f_a2 := x_a.fr 2
  have q_r0 := x_r.c0; have q_r1 := x_r.c1; have f_r0 := x_r.fr 0; have f_r1 := x_r.fr 1
  refine bodyPost_ret (v := .agg #[.bool (ngB (-flI (-cM X e) (cE e + li q))), .slice A4 n4 c4]) (by simp [results, Tryd.results35, go_sem, q_r0, q_r1]) rfl ?_
  exact ⟨_, _, _, rfl, z4, hb⟩

end Go.Proofs.YtcoidcbbdibnaaaDoor
