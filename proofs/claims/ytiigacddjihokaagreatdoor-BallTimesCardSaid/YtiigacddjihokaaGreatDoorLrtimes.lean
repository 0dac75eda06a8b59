/-
  the document's answers for ball: Times.
-/
import Derived.Test.YtiigacddjihokaaGreatDoorLleast
import Derived.Test.YtiigacddjihokaaGreatDoorLrshift
namespace Go.Proofs.YtiigacddjihokaaGreatDoor
open Go.RowKit
set_option linter.unusedVariables false

set_option maxRecDepth 100000 in
set_option maxHeartbeats 8000000 in
theorem RTimes_yes {b b2 : Bool} {A A2 : Option Addr} {n c n2 c2 : Nat} {X Y q : Int} {j j2 : Nat} {w : World} (h : Zr w b A n c X j) (h2 : Zr w b2 A2 n2 c2 Y j2) {b3 : Bool} {A3 : Option Addr} {n3 c3 : Nat} {K : Int} {j3 : Nat} (h3 : Zr w b3 A3 n3 c3 K j3) (hv : 0 ≤ q ∧ q ≤ 2048 ∧ X ≤ Y) (hj : j ≤ 8) (hj2 : j2 ≤ 8) (hj3 : j3 ≤ 8) :
    Calls Tryz.prog 27 #[.agg #[.bool b, .slice A n c, .bool b2, .slice A2 n2 c2, .int .i64 q], .agg #[.bool b3, .slice A3 n3 c3]] w (OuL w (min (X * K) (Y * K)) (max (X * K) (Y * K)) q 16) := by
  have HR := Lib.hid (rB_yes hv)
  clear hv
  obtain ⟨M, hM⟩ : ∃ M, X * K = M := ⟨_, rfl⟩
  obtain ⟨N, hN⟩ : ∃ N, Y * K = N := ⟨_, rfl⟩
  rw [hM, hN]
  have HM := Lib.hid hM; have HN := Lib.hid hN; clear hM hN
  obtain ⟨L, hL⟩ : ∃ L, min M N = L := ⟨_, rfl⟩
  obtain ⟨H, hH⟩ : ∃ H, max M N = H := ⟨_, rfl⟩
  rw [hL, hH]
  have HL := Lib.hid hL; have HH := Lib.hid hH; clear hL hH
  go_enter Tryz.func27, Tryz.ntmps27
  go_wp2_with fail
  have x_a : Lx (w.alloc (.cells #[.bool b, .slice A n c, .bool b2, .slice A2 n2 c2, .int .i64 q] 26)) (w.heap.size) b A n c b2 A2 n2 c2 q := by have := Lx.new w b A n c b2 A2 n2 c2 q; simpa using this
  replace x_a := x_a.alloc (.cells #[.bool b3, .slice A3 n3 c3] 24)
  have x_k : Bx ((w.alloc (.cells #[.bool b, .slice A n c, .bool b2, .slice A2 n2 c2, .int .i64 q] 26)).alloc (.cells #[.bool b3, .slice A3 n3 c3] 24)) (w.heap.size + 1) b3 A3 n3 c3 := by have := Bx.new (w.alloc (.cells #[.bool b, .slice A n c, .bool b2, .slice A2 n2 c2, .int .i64 q] 26)) b3 A3 n3 c3; simpa using this
  replace x_a := x_a.alloc (.cells #[.bool false, .slice none 0 0, .bool false, .slice none 0 0, .int .i64 0] 26)
  replace x_k := x_k.alloc (.cells #[.bool false, .slice none 0 0, .bool false, .slice none 0 0, .int .i64 0] 26)
  have x_r : Lx (((w.alloc (.cells #[.bool b, .slice A n c, .bool b2, .slice A2 n2 c2, .int .i64 q] 26)).alloc (.cells #[.bool b3, .slice A3 n3 c3] 24)).alloc (.cells #[.bool false, .slice none 0 0, .bool false, .slice none 0 0, .int .i64 0] 26)) (w.heap.size + 1 + 1) false none 0 0 false none 0 0 0 := by have := Lx.new ((w.alloc (.cells #[.bool b, .slice A n c, .bool b2, .slice A2 n2 c2, .int .i64 q] 26)).alloc (.cells #[.bool b3, .slice A3 n3 c3] 24)) false none 0 0 false none 0 0 0; simpa using this
  have hb : Below w.heap.size w (((w.alloc (.cells #[.bool b, .slice A n c, .bool b2, .slice A2 n2 c2, .int .i64 q] 26)).alloc (.cells #[.bool b3, .slice A3 n3 c3] 24)).alloc (.cells #[.bool false, .slice none 0 0, .bool false, .slice none 0 0, .int .i64 0] 26)) := (Below.alloc (Below.alloc (Below.alloc (Below.refl w.heap.size w) (by simp) (.cells #[.bool b, .slice A n c, .bool b2, .slice A2 n2 c2, .int .i64 q] 26)) (by simp) (.cells #[.bool b3, .slice A3 n3 c3] 24)) (by simp; omega) (.cells #[.bool false, .slice none 0 0, .bool false, .slice none 0 0, .int .i64 0] 26))
  generalize ((w.alloc (.cells #[.bool b, .slice A n c, .bool b2, .slice A2 n2 c2, .int .i64 q] 26)).alloc (.cells #[.bool b3, .slice A3 n3 c3] 24)).alloc (.cells #[.bool false, .slice none 0 0, .bool false, .slice none 0 0, .int .i64 0] 26) = v1 at *
  replace h := h.keep hb
  replace h2 := h2.keep hb
  replace h3 := h3.keep hb
  obtain ⟨q_a0, f_a0, q_a1, f_a1, q_a2, f_a2, q_a3, f_a3, q_a4, f_a4⟩ := x_a.al
  obtain ⟨q_k0, f_k0, q_k1, f_k1⟩ := x_k.al
  obtain ⟨q_r0, f_r0, q_r1, f_r1, q_r2, f_r2, q_r3, f_r3, q_r4, f_r4⟩ := x_r.al
  go_wp2_with fail
  with_reducible refine (RRight_any h h2 (by omega) (by omega)).mono ?_
  rintro e v2 ⟨rfl, hb1⟩
  replace x_a := x_a.keep hb1
  replace x_k := x_k.keep hb1
  replace x_r := x_r.keep hb1
  replace h := h.keep hb1
  replace h2 := h2.keep hb1
  replace h3 := h3.keep hb1
  replace hb := bthen hb hb1
  clear hb1
  clear q_a0 f_a0 q_a1 f_a1 q_a2 f_a2 q_a3 f_a3 q_a4 f_a4; obtain ⟨q_a0, f_a0, q_a1, f_a1, q_a2, f_a2, q_a3, f_a3, q_a4, f_a4⟩ := x_a.al
  clear q_k0 f_k0 q_k1 f_k1; obtain ⟨q_k0, f_k0, q_k1, f_k1⟩ := x_k.al
  clear q_r0 f_r0 q_r1 f_r1 q_r2 f_r2 q_r3 f_r3 q_r4 f_r4; obtain ⟨q_r0, f_r0, q_r1, f_r1, q_r2, f_r2, q_r3, f_r3, q_r4, f_r4⟩ := x_r.al
  rw [HR.out]
  go_wp2_with fail
  go_region_held3 (fun w' => w'.cell? ⟨w.heap.size, 0, none⟩ = some (.bool b) ∧ w'.cell? ⟨w.heap.size, 1, none⟩ = some (.slice A n c) ∧ w'.cell? ⟨w.heap.size, 2, none⟩ = some (.bool b2) ∧ w'.cell? ⟨w.heap.size, 3, none⟩ = some (.slice A2 n2 c2) ∧ w'.cell? ⟨w.heap.size, 4, none⟩ = some (.int .i64 q) ∧ w'.cell? ⟨w.heap.size + 1, 0, none⟩ = some (.bool b3) ∧ w'.cell? ⟨w.heap.size + 1, 1, none⟩ = some (.slice A3 n3 c3))
    (first | (with_reducible exact ⟨x_a.c0, x_a.c1, x_a.c2, x_a.c3, x_a.c4, x_k.c0, x_k.c1⟩) | (with_reducible exact ⟨(x_a.aside (by omega)).c0, (x_a.aside (by omega)).c1, (x_a.aside (by omega)).c2, (x_a.aside (by omega)).c3, (x_a.aside (by omega)).c4, (x_k.aside (by omega)).c0, (x_k.aside (by omega)).c1⟩) | (with_reducible exact ⟨((x_a.aside (by omega)).aside (by omega)).c0, ((x_a.aside (by omega)).aside (by omega)).c1, ((x_a.aside (by omega)).aside (by omega)).c2, ((x_a.aside (by omega)).aside (by omega)).c3, ((x_a.aside (by omega)).aside (by omega)).c4, ((x_k.aside (by omega)).aside (by omega)).c0, ((x_k.aside (by omega)).aside (by omega)).c1⟩) | (with_reducible exact ⟨(x_a.asideD (by omega)).c0, (x_a.asideD (by omega)).c1, (x_a.asideD (by omega)).c2, (x_a.asideD (by omega)).c3, (x_a.asideD (by omega)).c4, (x_k.asideD (by omega)).c0, (x_k.asideD (by omega)).c1⟩) | (with_reducible exact ⟨((x_a.asideD (by omega)).asideD (by omega)).c0, ((x_a.asideD (by omega)).asideD (by omega)).c1, ((x_a.asideD (by omega)).asideD (by omega)).c2, ((x_a.asideD (by omega)).asideD (by omega)).c3, ((x_a.asideD (by omega)).asideD (by omega)).c4, ((x_k.asideD (by omega)).asideD (by omega)).c0, ((x_k.asideD (by omega)).asideD (by omega)).c1⟩) | (with_reducible exact ⟨(x_a.asideL (by omega)).c0, (x_a.asideL (by omega)).c1, (x_a.asideL (by omega)).c2, (x_a.asideL (by omega)).c3, (x_a.asideL (by omega)).c4, (x_k.asideL (by omega)).c0, (x_k.asideL (by omega)).c1⟩) | (with_reducible exact ⟨((x_a.asideL (by omega)).asideL (by omega)).c0, ((x_a.asideL (by omega)).asideL (by omega)).c1, ((x_a.asideL (by omega)).asideL (by omega)).c2, ((x_a.asideL (by omega)).asideL (by omega)).c3, ((x_a.asideL (by omega)).asideL (by omega)).c4, ((x_k.asideL (by omega)).asideL (by omega)).c0, ((x_k.asideL (by omega)).asideL (by omega)).c1⟩) | (with_reducible exact ⟨(x_a.alloc _).c0, (x_a.alloc _).c1, (x_a.alloc _).c2, (x_a.alloc _).c3, (x_a.alloc _).c4, (x_k.alloc _).c0, (x_k.alloc _).c1⟩) | go_keep)
    (first | (go_at_call 62; (with_reducible refine (RMulZ_any h.drw h3.drw 16 (by omega) (by omega)).mono ?_); rintro e v3 ⟨A5, n5, c5, rfl, z5, hb1⟩; replace hb1 := undrew hb1; replace x_a := x_a.keep hb1; replace x_k := x_k.keep hb1; replace x_r := x_r.keep hb1; replace h := h.keep hb1; replace h2 := h2.keep hb1; replace h3 := h3.keep hb1; replace hb := bthen hb hb1; clear hb1; clear q_a0 f_a0 q_a1 f_a1 q_a2 f_a2 q_a3 f_a3 q_a4 f_a4; obtain ⟨q_a0, f_a0, q_a1, f_a1, q_a2, f_a2, q_a3, f_a3, q_a4, f_a4⟩ := x_a.al; clear q_k0 f_k0 q_k1 f_k1; obtain ⟨q_k0, f_k0, q_k1, f_k1⟩ := x_k.al; clear q_r0 f_r0 q_r1 f_r1 q_r2 f_r2 q_r3 f_r3 q_r4 f_r4; obtain ⟨q_r0, f_r0, q_r1, f_r1, q_r2, f_r2, q_r3, f_r3, q_r4, f_r4⟩ := x_r.al; rw [HM.out] at z5 ⊢) | (go_at_call 62; (with_reducible refine (RMulZ_any h2 h3 16 (by omega) (by omega)).mono ?_); rintro e v4 ⟨A6, n6, c6, rfl, z6, hb1⟩; replace x_a := x_a.keep hb1; replace x_k := x_k.keep hb1; replace x_r := x_r.keep hb1; replace h := h.keep hb1; replace h2 := h2.keep hb1; replace h3 := h3.keep hb1; replace z5 := z5.keep hb1; replace hb := bthen hb hb1; clear hb1; clear q_a0 f_a0 q_a1 f_a1 q_a2 f_a2 q_a3 f_a3 q_a4 f_a4; obtain ⟨q_a0, f_a0, q_a1, f_a1, q_a2, f_a2, q_a3, f_a3, q_a4, f_a4⟩ := x_a.al; clear q_k0 f_k0 q_k1 f_k1; obtain ⟨q_k0, f_k0, q_k1, f_k1⟩ := x_k.al; clear q_r0 f_r0 q_r1 f_r1 q_r2 f_r2 q_r3 f_r3 q_r4 f_r4; obtain ⟨q_r0, f_r0, q_r1, f_r1, q_r2, f_r2, q_r3, f_r3, q_r4, f_r4⟩ := x_r.al; rw [HN.out] at z6 ⊢))
  go_wp2_with fail
  have hb1 := below_alloc v4 (.cells #[.bool (ngB M), .slice A5 n5 c5, .bool (ngB N), .slice A6 n6 c6] 24)
  have l_a_s := x_a.lt
  have l_k_s := x_k.lt
  have l_r_s := x_r.lt
  have x_s := S2x.new v4 (ngB M) A5 n5 c5 (ngB N) A6 n6 c6
  have e_s : w.heap.size ≤ v4.heap.size := hb.size
  clear q_a0 f_a0 q_a1 f_a1 q_a2 f_a2 q_a3 f_a3 q_a4 f_a4 q_k0 f_k0 q_k1 f_k1 q_r0 f_r0 q_r1 f_r1 q_r2 f_r2 q_r3 f_r3 q_r4 f_r4
  replace x_a := x_a.keep hb1
  replace x_k := x_k.keep hb1
  replace x_r := x_r.keep hb1
  replace h := h.keep hb1
  replace h2 := h2.keep hb1
  replace h3 := h3.keep hb1
  replace z5 := z5.keep hb1
  replace z6 := z6.keep hb1
  replace hb := bthen hb hb1
  clear hb1
  generalize v4.alloc (.cells #[.bool (ngB M), .slice A5 n5 c5, .bool (ngB N), .slice A6 n6 c6] 24) = v5 at *
  obtain ⟨q_a0, f_a0, q_a1, f_a1, q_a2, f_a2, q_a3, f_a3, q_a4, f_a4⟩ := x_a.al
  obtain ⟨q_k0, f_k0, q_k1, f_k1⟩ := x_k.al
  obtain ⟨q_r0, f_r0, q_r1, f_r1, q_r2, f_r2, q_r3, f_r3, q_r4, f_r4⟩ := x_r.al
  obtain ⟨q_s0, f_s0, q_s1, f_s1, q_s2, f_s2, q_s3, f_s3⟩ := x_s.al
  clear q_s0 f_s0 q_s1 f_s1 q_s2 f_s2 q_s3 f_s3
  clear q_k0 f_k0 q_k1 f_k1
  go_region_held3 (fun w' => w'.cell? ⟨w.heap.size, 0, none⟩ = some (.bool b) ∧ w'.cell? ⟨w.heap.size, 1, none⟩ = some (.slice A n c) ∧ w'.cell? ⟨w.heap.size, 2, none⟩ = some (.bool b2) ∧ w'.cell? ⟨w.heap.size, 3, none⟩ = some (.slice A2 n2 c2) ∧ w'.cell? ⟨w.heap.size, 4, none⟩ = some (.int .i64 q))
    (first | (with_reducible exact ⟨x_a.c0, x_a.c1, x_a.c2, x_a.c3, x_a.c4⟩) | (with_reducible exact ⟨(x_a.aside (by omega)).c0, (x_a.aside (by omega)).c1, (x_a.aside (by omega)).c2, (x_a.aside (by omega)).c3, (x_a.aside (by omega)).c4⟩) | (with_reducible exact ⟨((x_a.aside (by omega)).aside (by omega)).c0, ((x_a.aside (by omega)).aside (by omega)).c1, ((x_a.aside (by omega)).aside (by omega)).c2, ((x_a.aside (by omega)).aside (by omega)).c3, ((x_a.aside (by omega)).aside (by omega)).c4⟩) | (with_reducible exact ⟨(x_a.asideD (by omega)).c0, (x_a.asideD (by omega)).c1, (x_a.asideD (by omega)).c2, (x_a.asideD (by omega)).c3, (x_a.asideD (by omega)).c4⟩) | (with_reducible exact ⟨((x_a.asideD (by omega)).asideD (by omega)).c0, ((x_a.asideD (by omega)).asideD (by omega)).c1, ((x_a.asideD (by omega)).asideD (by omega)).c2, ((x_a.asideD (by omega)).asideD (by omega)).c3, ((x_a.asideD (by omega)).asideD (by omega)).c4⟩) | (with_reducible exact ⟨(x_a.asideL (by omega)).c0, (x_a.asideL (by omega)).c1, (x_a.asideL (by omega)).c2, (x_a.asideL (by omega)).c3, (x_a.asideL (by omega)).c4⟩) | (with_reducible exact ⟨((x_a.asideL (by omega)).asideL (by omega)).c0, ((x_a.asideL (by omega)).asideL (by omega)).c1, ((x_a.asideL (by omega)).asideL (by omega)).c2, ((x_a.asideL (by omega)).asideL (by omega)).c3, ((x_a.asideL (by omega)).asideL (by omega)).c4⟩) | go_keep)
    (first | (go_at_call 63; (with_reducible refine (least2_any x_s.drw z5.drw z6.drw (by omega)).mono ?_); rintro e v6 ⟨A7, n7, c7, rfl, z7, hb1⟩; replace hb1 := undrew hb1; replace x_a := x_a.keep hb1; replace x_k := x_k.keep hb1; replace x_r := x_r.keep hb1; replace x_s := x_s.keep hb1; replace h := h.keep hb1; replace h2 := h2.keep hb1; replace h3 := h3.keep hb1; replace z5 := z5.keep hb1; replace z6 := z6.keep hb1; replace hb := bthen hb hb1; clear hb1; clear q_a0 f_a0 q_a1 f_a1 q_a2 f_a2 q_a3 f_a3 q_a4 f_a4; obtain ⟨q_a0, f_a0, q_a1, f_a1, q_a2, f_a2, q_a3, f_a3, q_a4, f_a4⟩ := x_a.al; clear q_r0 f_r0 q_r1 f_r1 q_r2 f_r2 q_r3 f_r3 q_r4 f_r4; obtain ⟨q_r0, f_r0, q_r1, f_r1, q_r2, f_r2, q_r3, f_r3, q_r4, f_r4⟩ := x_r.al; rw [HL.out] at z7 ⊢) | (go_at_call 64; (with_reducible refine (greatest2_any x_s z5 z6 (by omega)).mono ?_); rintro e v7 ⟨A8, n8, c8, rfl, z8, hb1⟩; replace x_a := x_a.keep hb1; replace x_k := x_k.keep hb1; replace x_r := x_r.keep hb1; replace x_s := x_s.keep hb1; replace h := h.keep hb1; replace h2 := h2.keep hb1; replace h3 := h3.keep hb1; replace z5 := z5.keep hb1; replace z6 := z6.keep hb1; replace z7 := z7.keep hb1; replace hb := bthen hb hb1; clear hb1; clear q_a0 f_a0 q_a1 f_a1 q_a2 f_a2 q_a3 f_a3 q_a4 f_a4; obtain ⟨q_a0, f_a0, q_a1, f_a1, q_a2, f_a2, q_a3, f_a3, q_a4, f_a4⟩ := x_a.al; clear q_r0 f_r0 q_r1 f_r1 q_r2 f_r2 q_r3 f_r3 q_r4 f_r4; obtain ⟨q_r0, f_r0, q_r1, f_r1, q_r2, f_r2, q_r3, f_r3, q_r4, f_r4⟩ := x_r.al; rw [HH.out] at z8 ⊢))
  go_wp2
  replace x_a := x_a.asideL (b' := (ngB L)) (A' := A7) (n' := n7) (c' := c7) (p' := (ngB H)) (B' := A8) (m' := n8) (d' := c8) (e' := q) (g := w.heap.size + 1 + 1) (by omega)
  replace x_k := x_k.asideL (b' := (ngB L)) (A' := A7) (n' := n7) (c' := c7) (p' := (ngB H)) (B' := A8) (m' := n8) (d' := c8) (e' := q) (g := w.heap.size + 1 + 1) (by omega)
  replace x_s := x_s.asideL (b' := (ngB L)) (A' := A7) (n' := n7) (c' := c7) (p' := (ngB H)) (B' := A8) (m' := n8) (d' := c8) (e' := q) (g := w.heap.size + 1 + 1) (by omega)
  replace h := h.putL (b' := (ngB L)) (A' := A7) (n' := n7) (c' := c7) (p' := (ngB H)) (B' := A8) (m' := n8) (d' := c8) (e' := q) x_r
  replace h2 := h2.putL (b' := (ngB L)) (A' := A7) (n' := n7) (c' := c7) (p' := (ngB H)) (B' := A8) (m' := n8) (d' := c8) (e' := q) x_r
  replace h3 := h3.putL (b' := (ngB L)) (A' := A7) (n' := n7) (c' := c7) (p' := (ngB H)) (B' := A8) (m' := n8) (d' := c8) (e' := q) x_r
  replace z5 := z5.putL (b' := (ngB L)) (A' := A7) (n' := n7) (c' := c7) (p' := (ngB H)) (B' := A8) (m' := n8) (d' := c8) (e' := q) x_r
  replace z6 := z6.putL (b' := (ngB L)) (A' := A7) (n' := n7) (c' := c7) (p' := (ngB H)) (B' := A8) (m' := n8) (d' := c8) (e' := q) x_r
  replace z7 := z7.putL (b' := (ngB L)) (A' := A7) (n' := n7) (c' := c7) (p' := (ngB H)) (B' := A8) (m' := n8) (d' := c8) (e' := q) x_r
  replace z8 := z8.putL (b' := (ngB L)) (A' := A7) (n' := n7) (c' := c7) (p' := (ngB H)) (B' := A8) (m' := n8) (d' := c8) (e' := q) x_r
  replace hb := put_belowL (g := w.heap.size + 1 + 1) hb (by omega) (.bool (ngB L)) (.slice A7 n7 c7) (.bool (ngB H)) (.slice A8 n8 c8) (.int .i64 q)
  replace x_r := x_r.put (ngB L) A7 n7 c7 (ngB H) A8 n8 c8 q
  clear q_a0 f_a0 q_a1 f_a1 q_a2 f_a2 q_a3 f_a3 q_a4 f_a4 q_r0 f_r0 q_r1 f_r1 q_r2 f_r2 q_r3 f_r3 q_r4 f_r4
  generalize ((((v7.setCell ⟨w.heap.size + 1 + 1, 0, none⟩ (.bool (ngB L))).setCell ⟨w.heap.size + 1 + 1, 1, none⟩ (.slice A7 n7 c7)).setCell ⟨w.heap.size + 1 + 1, 2, none⟩ (.bool (ngB H))).setCell ⟨w.heap.size + 1 + 1, 3, none⟩ (.slice A8 n8 c8)).setCell ⟨w.heap.size + 1 + 1, 4, none⟩ (.int .i64 q) = v8 at *
  obtain ⟨q_a0, f_a0, q_a1, f_a1, q_a2, f_a2, q_a3, f_a3, q_a4, f_a4⟩ := x_a.al
  obtain ⟨q_r0, f_r0, q_r1, f_r1, q_r2, f_r2, q_r3, f_r3, q_r4, f_r4⟩ := x_r.al
  refine bodyPost_ret (v := .tuple #[.agg #[.bool (ngB L), .slice A7 n7 c7, .bool (ngB H), .slice A8 n8 c8, .int .i64 q], .int .i64 0]) (by simp [results, Tryz.results27, go_sem, q_r0, q_r1, q_r2, q_r3, q_r4]) rfl ?_
  exact ⟨_, _, _, _, _, _, rfl, z7, z8, hb⟩

end Go.Proofs.YtiigacddjihokaaGreatDoor
