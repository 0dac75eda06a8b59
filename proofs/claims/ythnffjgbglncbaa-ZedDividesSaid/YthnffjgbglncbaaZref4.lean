/-
  The document's answer for zed: DivMod by 0, and its arithmetic.
-/
import Derived.Test.YthnffjgbglncbaaZref3
import Derived.Test.YthnffjgbglncbaaRdivmod
import Derived.Test.YthnffjgbglncbaaZrnd
namespace Go.Proofs.Ythnffjgbglncbaa
open Go.RowKit
set_option linter.unusedVariables false

theorem Zn.rd {w : World} {A : Option Addr} {n c k : Nat} {X : Int} (h : Zn w A n c X k) : Rd w w.heap.size A n c (dg Wd X.natAbs) := h.1
theorem Zn.lek {w : World} {A : Option Addr} {n c k : Nat} {X : Int} (h : Zn w A n c X k) : n ≤ k := h.2
theorem rdm_plain {X Y : Int} (hY : Y ≠ 0) (h : ngB (zi (ngB X) (X.natAbs % Y.natAbs)) = false) : X / Y = zi (!(ngB X == ngB Y)) (X.natAbs / Y.natAbs) ∧ X % Y = zi (ngB X) (X.natAbs % Y.natAbs) := by
  have hM : 0 < Y.natAbs := by omega
  have hc : ngB X = false ∨ X.natAbs % Y.natAbs = 0 := by
    cases hx : ngB X
    · exact .inl rfl
    · right
      rw [hx] at h
      rcases Nat.eq_zero_or_pos (X.natAbs % Y.natAbs) with h0 | h0
      · exact h0
      · rw [ngB_true h0] at h; cases h
  have := dm_plain (b := ngB X) (b2 := ngB Y) hM hc
  rw [zi_ngB, zi_ngB] at this
  refine ⟨this.1, this.2.trans ?_⟩
  rcases hc with hc | hc
  · rw [hc]
  · rw [hc]; unfold zi; split <;> simp
theorem rdm_more {X Y : Int} (hY : Y ≠ 0) (h : ngB (zi (ngB X) (X.natAbs % Y.natAbs)) = true) : ngB X = true ∧ X % Y = zi (ngB X) (X.natAbs % Y.natAbs) + (Y.natAbs : Int) ∧
    (ngB Y = true → X / Y = zi (!(ngB X == ngB Y)) (X.natAbs / Y.natAbs) + 1) ∧ (ngB Y = false → X / Y = zi (!(ngB X == ngB Y)) (X.natAbs / Y.natAbs) - 1) := by
  have hM : 0 < Y.natAbs := by omega
  have hx : ngB X = true := by
    cases hx : ngB X
    · rw [hx, ngB_false] at h; cases h
    · rfl
  have h0 : 0 < X.natAbs % Y.natAbs := by
    rcases Nat.eq_zero_or_pos (X.natAbs % Y.natAbs) with h0 | h0
    · rw [h0, ngB_zero] at h; cases h
    · exact h0
  have := dm_more (b2 := ngB Y) (N := X.natAbs) hM h0
  rw [← hx, zi_ngB, zi_ngB] at this
  have hlt := Nat.mod_lt X.natAbs hM
  refine ⟨hx, this.2.trans ?_, fun hy => this.1.trans ?_, fun hy => this.1.trans ?_⟩
  · rw [hx, zi_true, zi_false]; omega
  · rw [hx, hy]; show zi false _ = zi false _ + 1; rw [zi_false, zi_false]; omega
  · rw [hx, hy]; show zi true _ = zi true _ - 1; rw [zi_true, zi_true]; omega

set_option maxRecDepth 100000 in
set_option maxHeartbeats 4000000 in
theorem RDivModZ_zero {b b2 : Bool} {A A2 : Option Addr} {n c n2 c2 : Nat} {X Y : Int} {j j2 : Nat} {w : World} (h : Zr w b A n c X j) (h2 : Zr w b2 A2 n2 c2 Y j2) (hY : Y = 0) (hj : j ≤ 100000) (hj2 : j2 ≤ 100000) :
    Calls Try.prog 42 #[.agg #[.bool b, .slice A n c], .agg #[.bool b2, .slice A2 n2 c2]] w fun e w' => e = .returned (.tuple #[.agg #[.bool false, .slice none 0 0], .agg #[.bool false, .slice none 0 0], .bool false]) ∧ Below w.heap.size w w' := by
  have HY := Lib.hid hY; clear hY
  go_enter Try.func42, Try.ntmps42
  go_wp2_with fail
  obtain ⟨hb, x_a, x_b, x_q, x_r⟩ := box4 w b A n c b2 A2 n2 c2 false none 0 0 false none 0 0
  generalize (((w.alloc (.cells #[.bool b, .slice A n c] 24)).alloc (.cells #[.bool b2, .slice A2 n2 c2] 24)).alloc (.cells #[.bool false, .slice none 0 0] 24)).alloc (.cells #[.bool false, .slice none 0 0] 24) = v1 at *
  replace h := h.keep hb
  replace h2 := h2.keep hb
  have q_a0 := x_a.c0; have q_a1 := x_a.c1; have f_a0 := x_a.fr 0; have f_a1 := x_a.fr 1
  have q_b0 := x_b.c0; have q_b1 := x_b.c1; have f_b0 := x_b.fr 0; have f_b1 := x_b.fr 1
  have q_q0 := x_q.c0; have q_q1 := x_q.c1; have f_q0 := x_q.fr 0; have f_q1 := x_q.fr 1
  have q_r0 := x_r.c0; have q_r1 := x_r.c1; have f_r0 := x_r.fr 0; have f_r1 := x_r.fr 1
  go_wp2_with fail
  with_reducible refine (RNormZ_any h j (Nat.le_refl _) (by omega)).mono ?_
  rintro e v2 ⟨A3, n3, c3, rfl, za, hb1⟩
  replace x_a := x_a.keep hb1
  replace x_b := x_b.keep hb1
  replace x_q := x_q.keep hb1
  replace x_r := x_r.keep hb1
  replace h := h.keep hb1
  replace h2 := h2.keep hb1
  replace hb := bthen hb hb1
  clear hb1
  replace q_a0 := x_a.c0; replace q_a1 := x_a.c1; replace f_a0 := x_a.fr 0; replace f_a1 := x_a.fr 1
  replace q_b0 := x_b.c0; replace q_b1 := x_b.c1; replace f_b0 := x_b.fr 0; replace f_b1 := x_b.fr 1
  replace q_q0 := x_q.c0; replace q_q1 := x_q.c1; replace f_q0 := x_q.fr 0; replace f_q1 := x_q.fr 1
  replace q_r0 := x_r.c0; replace q_r1 := x_r.c1; replace f_r0 := x_r.fr 0; replace f_r1 := x_r.fr 1
  clear h
  go_wp2_with fail
  replace x_b := x_b.aside (b' := (ngB X)) (A' := A3) (n' := n3) (c' := c3) (g := w.heap.size) (by omega)
  replace x_q := x_q.aside (b' := (ngB X)) (A' := A3) (n' := n3) (c' := c3) (g := w.heap.size) (by omega)
  replace x_r := x_r.aside (b' := (ngB X)) (A' := A3) (n' := n3) (c' := c3) (g := w.heap.size) (by omega)
  replace h2 := h2.put (b' := (ngB X)) (A' := A3) (n' := n3) (c' := c3) x_a
  replace za := za.put (b' := (ngB X)) (A' := A3) (n' := n3) (c' := c3) x_a
  replace hb := put_below (g := w.heap.size) hb (by omega) (.bool (ngB X)) (.slice A3 n3 c3)
  replace x_a := x_a.put (ngB X) A3 n3 c3
  clear q_a0 q_a1 f_a0 f_a1 q_b0 q_b1 f_b0 f_b1 q_q0 q_q1 f_q0 f_q1 q_r0 q_r1 f_r0 f_r1
  generalize (v2.setCell ⟨w.heap.size, 0, none⟩ (.bool (ngB X))).setCell ⟨w.heap.size, 1, none⟩ (.slice A3 n3 c3) = v3 at *
  have q_a0 := x_a.c0; have q_a1 := x_a.c1; have f_a0 := x_a.fr 0; have f_a1 := x_a.fr 1
  have q_b0 := x_b.c0; have q_b1 := x_b.c1; have f_b0 := x_b.fr 0; have f_b1 := x_b.fr 1
  have q_q0 := x_q.c0; have q_q1 := x_q.c1; have f_q0 := x_q.fr 0; have f_q1 := x_q.fr 1
  have q_r0 := x_r.c0; have q_r1 := x_r.c1; have f_r0 := x_r.fr 0; have f_r1 := x_r.fr 1
  with_reducible refine (RNormZ_any h2 j2 (Nat.le_refl _) (by omega)).mono ?_
  rintro e v4 ⟨A4, n4, c4, rfl, zb, hb1⟩
  replace x_a := x_a.keep hb1
  replace x_b := x_b.keep hb1
  replace x_q := x_q.keep hb1
  replace x_r := x_r.keep hb1
  replace h2 := h2.keep hb1
  replace za := za.keep hb1
  replace hb := bthen hb hb1
  clear hb1
  replace q_a0 := x_a.c0; replace q_a1 := x_a.c1; replace f_a0 := x_a.fr 0; replace f_a1 := x_a.fr 1
  replace q_b0 := x_b.c0; replace q_b1 := x_b.c1; replace f_b0 := x_b.fr 0; replace f_b1 := x_b.fr 1
  replace q_q0 := x_q.c0; replace q_q1 := x_q.c1; replace f_q0 := x_q.fr 0; replace f_q1 := x_q.fr 1
  replace q_r0 := x_r.c0; replace q_r1 := x_r.c1; replace f_r0 := x_r.fr 0; replace f_r1 := x_r.fr 1
  clear h2
  go_wp2_with fail
  replace x_a := x_a.aside (b' := (ngB Y)) (A' := A4) (n' := n4) (c' := c4) (g := w.heap.size + 1) (by omega)
  replace x_q := x_q.aside (b' := (ngB Y)) (A' := A4) (n' := n4) (c' := c4) (g := w.heap.size + 1) (by omega)
  replace x_r := x_r.aside (b' := (ngB Y)) (A' := A4) (n' := n4) (c' := c4) (g := w.heap.size + 1) (by omega)
  replace za := za.put (b' := (ngB Y)) (A' := A4) (n' := n4) (c' := c4) x_b
  replace zb := zb.put (b' := (ngB Y)) (A' := A4) (n' := n4) (c' := c4) x_b
  replace hb := put_below (g := w.heap.size + 1) hb (by omega) (.bool (ngB Y)) (.slice A4 n4 c4)
  replace x_b := x_b.put (ngB Y) A4 n4 c4
  clear q_a0 q_a1 f_a0 f_a1 q_b0 q_b1 f_b0 f_b1 q_q0 q_q1 f_q0 f_q1 q_r0 q_r1 f_r0 f_r1
  generalize (v4.setCell ⟨w.heap.size + 1, 0, none⟩ (.bool (ngB Y))).setCell ⟨w.heap.size + 1, 1, none⟩ (.slice A4 n4 c4) = v5 at *
  have q_a0 := x_a.c0; have q_a1 := x_a.c1; have f_a0 := x_a.fr 0; have f_a1 := x_a.fr 1
  have q_b0 := x_b.c0; have q_b1 := x_b.c1; have f_b0 := x_b.fr 0; have f_b1 := x_b.fr 1
  have q_q0 := x_q.c0; have q_q1 := x_q.c1; have f_q0 := x_q.fr 0; have f_q1 := x_q.fr 1
  have q_r0 := x_r.c0; have q_r1 := x_r.c1; have f_r0 := x_r.fr 0; have f_r1 := x_r.fr 1
  skip
  with_reducible refine (RDivMod_zero _ _ _ _ _ _ _ _ _ za.rd zb.rd (by have := za.lek; omega) (by have := zb.lek; omega) (by rw [vl_dg Wd2, HY.out, Int.natAbs_zero])).mono ?_
  rintro e v6 ⟨rfl, hb1⟩
  replace x_a := x_a.keep hb1
  replace x_b := x_b.keep hb1
  replace x_q := x_q.keep hb1
  replace x_r := x_r.keep hb1
  replace za := za.keep hb1
  replace zb := zb.keep hb1
  replace hb := bthen hb hb1
  clear hb1
  replace q_a0 := x_a.c0; replace q_a1 := x_a.c1; replace f_a0 := x_a.fr 0; replace f_a1 := x_a.fr 1
  replace q_b0 := x_b.c0; replace q_b1 := x_b.c1; replace f_b0 := x_b.fr 0; replace f_b1 := x_b.fr 1
  replace q_q0 := x_q.c0; replace q_q1 := x_q.c1; replace f_q0 := x_q.fr 0; replace f_q1 := x_q.fr 1
  replace q_r0 := x_r.c0; replace q_r1 := x_r.c1; replace f_r0 := x_r.fr 0; replace f_r1 := x_r.fr 1
  go_wp2
  replace x_a := x_a.aside (b' := false) (A' := none) (n' := 0) (c' := 0) (g := w.heap.size + 1 + 1) (by omega)
  replace x_b := x_b.aside (b' := false) (A' := none) (n' := 0) (c' := 0) (g := w.heap.size + 1 + 1) (by omega)
  replace x_r := x_r.aside (b' := false) (A' := none) (n' := 0) (c' := 0) (g := w.heap.size + 1 + 1) (by omega)
  replace za := za.put (b' := false) (A' := none) (n' := 0) (c' := 0) x_q
  replace zb := zb.put (b' := false) (A' := none) (n' := 0) (c' := 0) x_q
  replace hb := put_below (g := w.heap.size + 1 + 1) hb (by omega) (.bool false) (.slice none 0 0)
  replace x_q := x_q.put false none 0 0
  clear q_a0 q_a1 f_a0 f_a1 q_b0 q_b1 f_b0 f_b1 q_q0 q_q1 f_q0 f_q1 q_r0 q_r1 f_r0 f_r1
  generalize (v6.setCell ⟨w.heap.size + 1 + 1, 0, none⟩ (.bool false)).setCell ⟨w.heap.size + 1 + 1, 1, none⟩ (.slice none 0 0) = v7 at *
  have q_a0 := x_a.c0; have q_a1 := x_a.c1; have f_a0 := x_a.fr 0; have f_a1 := x_a.fr 1
  have q_b0 := x_b.c0; have q_b1 := x_b.c1; have f_b0 := x_b.fr 0; have f_b1 := x_b.fr 1
  have q_q0 := x_q.c0; have q_q1 := x_q.c1; have f_q0 := x_q.fr 0; have f_q1 := x_q.fr 1
  have q_r0 := x_r.c0; have q_r1 := x_r.c1; have f_r0 := x_r.fr 0; have f_r1 := x_r.fr 1
  replace x_a := x_a.aside (b' := false) (A' := none) (n' := 0) (c' := 0) (g := w.heap.size + 1 + 1 + 1) (by omega)
  replace x_b := x_b.aside (b' := false) (A' := none) (n' := 0) (c' := 0) (g := w.heap.size + 1 + 1 + 1) (by omega)
  replace x_q := x_q.aside (b' := false) (A' := none) (n' := 0) (c' := 0) (g := w.heap.size + 1 + 1 + 1) (by omega)
  replace za := za.put (b' := false) (A' := none) (n' := 0) (c' := 0) x_r
  replace zb := zb.put (b' := false) (A' := none) (n' := 0) (c' := 0) x_r
  replace hb := put_below (g := w.heap.size + 1 + 1 + 1) hb (by omega) (.bool false) (.slice none 0 0)
  replace x_r := x_r.put false none 0 0
  clear q_a0 q_a1 f_a0 f_a1 q_b0 q_b1 f_b0 f_b1 q_q0 q_q1 f_q0 f_q1 q_r0 q_r1 f_r0 f_r1
  generalize (v7.setCell ⟨w.heap.size + 1 + 1 + 1, 0, none⟩ (.bool false)).setCell ⟨w.heap.size + 1 + 1 + 1, 1, none⟩ (.slice none 0 0) = v8 at *
  have q_a0 := x_a.c0; have q_a1 := x_a.c1; have f_a0 := x_a.fr 0; have f_a1 := x_a.fr 1
  have q_b0 := x_b.c0; have q_b1 := x_b.c1; have f_b0 := x_b.fr 0; have f_b1 := x_b.fr 1
  have q_q0 := x_q.c0; have q_q1 := x_q.c1; have f_q0 := x_q.fr 0; have f_q1 := x_q.fr 1
  have q_r0 := x_r.c0; have q_r1 := x_r.c1; have f_r0 := x_r.fr 0; have f_r1 := x_r.fr 1
  refine bodyPost_ret (v := .tuple #[.agg #[.bool false, .slice none 0 0], .agg #[.bool false, .slice none 0 0], .bool false]) (by simp [results, Try.results42, go_sem, q_q0, q_q1, q_r0, q_r1]) rfl ?_
  exact ⟨rfl, hb⟩

end Go.Proofs.Ythnffjgbglncbaa
