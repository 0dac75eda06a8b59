/-
  The document's answer for zed: DivMod, where nothing is put right.
-/
import Derived.Test.YthnffjgbglncbaaZref4
namespace Go.Proofs.Ythnffjgbglncbaa
open Go.RowKit
set_option linter.unusedVariables false

set_option maxRecDepth 100000 in
set_option maxHeartbeats 16000000 in
theorem RDivModZ_plain {b b2 : Bool} {A A2 : Option Addr} {n c n2 c2 : Nat} {X Y : Int} {j j2 : Nat} {w : World} (h : Zr w b A n c X j) (h2 : Zr w b2 A2 n2 c2 Y j2) (hY : Y ≠ 0) (k : Nat) (hk : j + 1 ≤ k) (hk2 : j2 + 1 ≤ k) (hj : k ≤ 10000) (hng : ngB (zi (ngB X) (X.natAbs % Y.natAbs)) = false) :
    Calls Try.prog 42 #[.agg #[.bool b, .slice A n c], .agg #[.bool b2, .slice A2 n2 c2]] w (DqPost w (X / Y) (X % Y) (k + 1)) := by
  have hs : Sm X.natAbs (k - 1) := (h.si).mono (by omega)
  have hs2 : Sm Y.natAbs (k - 1) := (h2.si).mono (by omega)
  have hM0 : 0 < Y.natAbs := by omega
  have hsQ : Sm (X.natAbs / Y.natAbs) k := (hs.div _).mono (by omega)
  have hsR : Sm (X.natAbs % Y.natAbs) k := (hs.mod).mono (by omega)
  obtain ⟨e1, e2⟩ := rdm_plain hY hng
  rw [e1, e2]
  clear e1 e2 hs hs2
  generalize hQ9 : X.natAbs / Y.natAbs = NQ at *
  generalize hR9 : X.natAbs % Y.natAbs = NR at *
  have HNQ := Lib.hid hQ9; have HNR := Lib.hid hR9; have HNG := Lib.hid hng; clear hQ9 hR9 hng
  go_enter Try.func42, Try.ntmps42
  go_wp2_with fail
  obtain ⟨hb, x_a, x_b, x_q, x_r⟩ := box4 w b A n c b2 A2 n2 c2 false none 0 0 false none 0 0
  generalize (((w.alloc (.cells #[.bool b, .slice A n c] 24)).alloc (.cells #[.bool b2, .slice A2 n2 c2] 24)).alloc (.cells #[.bool false, .slice none 0 0] 24)).alloc (.cells #[.bool false, .slice none 0 0] 24) = v1 at *
  replace h := h.keep hb
  replace h2 := h2.keep hb
  have q_a0 := x_a.c0; have q_a1 := x_a.c1; have f_a0 := x_a.fr 0; have f_a1 := x_a.fr 1
  have q_b0 := x_b.c0; have q_b1 := x_b.c1; have f_b0 := x_b.fr 0; have f_b1 := x_b.fr 1
  have q_q0 := x_q.c0; have q_q1 := x_q.c1; have f_q0 := x_q.fr 0; have f_q1 := x_q.fr 1
  have q_r0 := x_r.c0; have q_r1 := x_r.c1; have f_r0 := x_r.fr 0; have f_r1 := x_r.fr 1
  go_wp2_with fail
  with_reducible refine (RNormZ_any h j (Nat.le_refl _) (by omega)).mono ?_
  rintro e v2 ⟨A3, n3, c3, rfl, za, hb1⟩
  replace x_a := x_a.keep hb1
  replace x_b := x_b.keep hb1
  replace x_q := x_q.keep hb1
  replace x_r := x_r.keep hb1
  replace h := h.keep hb1
  replace h2 := h2.keep hb1
  replace hb := bthen hb hb1
  clear hb1
  replace q_a0 := x_a.c0; replace q_a1 := x_a.c1; replace f_a0 := x_a.fr 0; replace f_a1 := x_a.fr 1
  replace q_b0 := x_b.c0; replace q_b1 := x_b.c1; replace f_b0 := x_b.fr 0; replace f_b1 := x_b.fr 1
  replace q_q0 := x_q.c0; replace q_q1 := x_q.c1; replace f_q0 := x_q.fr 0; replace f_q1 := x_q.fr 1
  replace q_r0 := x_r.c0; replace q_r1 := x_r.c1; replace f_r0 := x_r.fr 0; replace f_r1 := x_r.fr 1
  clear h
  go_wp2_with fail
  replace x_b := x_b.aside (b' := (ngB X)) (A' := A3) (n' := n3) (c' := c3) (g := w.heap.size) (by omega)
  replace x_q := x_q.aside (b' := (ngB X)) (A' := A3) (n' := n3) (c' := c3) (g := w.heap.size) (by omega)
  replace x_r := x_r.aside (b' := (ngB X)) (A' := A3) (n' := n3) (c' := c3) (g := w.heap.size) (by omega)
  replace h2 := h2.put (b' := (ngB X)) (A' := A3) (n' := n3) (c' := c3) x_a
  replace za := za.put (b' := (ngB X)) (A' := A3) (n' := n3) (c' := c3) x_a
  replace hb := put_below (g := w.heap.size) hb (by omega) (.bool (ngB X)) (.slice A3 n3 c3)
  replace x_a := x_a.put (ngB X) A3 n3 c3
  clear q_a0 q_a1 f_a0 f_a1 q_b0 q_b1 f_b0 f_b1 q_q0 q_q1 f_q0 f_q1 q_r0 q_r1 f_r0 f_r1
  generalize (v2.setCell ⟨w.heap.size, 0, none⟩ (.bool (ngB X))).setCell ⟨w.heap.size, 1, none⟩ (.slice A3 n3 c3) = v3 at *
  have q_a0 := x_a.c0; have q_a1 := x_a.c1; have f_a0 := x_a.fr 0; have f_a1 := x_a.fr 1
  have q_b0 := x_b.c0; have q_b1 := x_b.c1; have f_b0 := x_b.fr 0; have f_b1 := x_b.fr 1
  have q_q0 := x_q.c0; have q_q1 := x_q.c1; have f_q0 := x_q.fr 0; have f_q1 := x_q.fr 1
  have q_r0 := x_r.c0; have q_r1 := x_r.c1; have f_r0 := x_r.fr 0; have f_r1 := x_r.fr 1
  with_reducible refine (RNormZ_any h2 j2 (Nat.le_refl _) (by omega)).mono ?_
  rintro e v4 ⟨A4, n4, c4, rfl, zb, hb1⟩
  replace x_a := x_a.keep hb1
  replace x_b := x_b.keep hb1
  replace x_q := x_q.keep hb1
  replace x_r := x_r.keep hb1
  replace h2 := h2.keep hb1
  replace za := za.keep hb1
  replace hb := bthen hb hb1
  clear hb1
  replace q_a0 := x_a.c0; replace q_a1 := x_a.c1; replace f_a0 := x_a.fr 0; replace f_a1 := x_a.fr 1
  replace q_b0 := x_b.c0; replace q_b1 := x_b.c1; replace f_b0 := x_b.fr 0; replace f_b1 := x_b.fr 1
  replace q_q0 := x_q.c0; replace q_q1 := x_q.c1; replace f_q0 := x_q.fr 0; replace f_q1 := x_q.fr 1
  replace q_r0 := x_r.c0; replace q_r1 := x_r.c1; replace f_r0 := x_r.fr 0; replace f_r1 := x_r.fr 1
  clear h2
  go_wp2_with fail
  replace x_a := x_a.aside (b' := (ngB Y)) (A' := A4) (n' := n4) (c' := c4) (g := w.heap.size + 1) (by omega)
  replace x_q := x_q.aside (b' := (ngB Y)) (A' := A4) (n' := n4) (c' := c4) (g := w.heap.size + 1) (by omega)
  replace x_r := x_r.aside (b' := (ngB Y)) (A' := A4) (n' := n4) (c' := c4) (g := w.heap.size + 1) (by omega)
  replace za := za.put (b' := (ngB Y)) (A' := A4) (n' := n4) (c' := c4) x_b
  replace zb := zb.put (b' := (ngB Y)) (A' := A4) (n' := n4) (c' := c4) x_b
  replace hb := put_below (g := w.heap.size + 1) hb (by omega) (.bool (ngB Y)) (.slice A4 n4 c4)
  replace x_b := x_b.put (ngB Y) A4 n4 c4
  clear q_a0 q_a1 f_a0 f_a1 q_b0 q_b1 f_b0 f_b1 q_q0 q_q1 f_q0 f_q1 q_r0 q_r1 f_r0 f_r1
  generalize (v4.setCell ⟨w.heap.size + 1, 0, none⟩ (.bool (ngB Y))).setCell ⟨w.heap.size + 1, 1, none⟩ (.slice A4 n4 c4) = v5 at *
  have q_a0 := x_a.c0; have q_a1 := x_a.c1; have f_a0 := x_a.fr 0; have f_a1 := x_a.fr 1
  have q_b0 := x_b.c0; have q_b1 := x_b.c1; have f_b0 := x_b.fr 0; have f_b1 := x_b.fr 1
  have q_q0 := x_q.c0; have q_q1 := x_q.c1; have f_q0 := x_q.fr 0; have f_q1 := x_q.fr 1
  have q_r0 := x_r.c0; have q_r1 := x_r.c1; have f_r0 := x_r.fr 0; have f_r1 := x_r.fr 1
  skip
  with_reducible refine (RDivMod_any _ _ _ _ _ _ _ _ _ za.rd zb.rd (by have := za.lek; omega) (by have := zb.lek; omega) (by rw [vl_dg Wd2]; exact hM0)).mono ?_
  rintro e v6 ⟨A5, n5, c5, A6, n6, c6, rfl, g5, g6, hb1⟩
  replace x_a := x_a.keep hb1
  replace x_b := x_b.keep hb1
  replace x_q := x_q.keep hb1
  replace x_r := x_r.keep hb1
  replace za := za.keep hb1
  replace zb := zb.keep hb1
  replace hb := bthen hb hb1
  clear hb1
  replace q_a0 := x_a.c0; replace q_a1 := x_a.c1; replace f_a0 := x_a.fr 0; replace f_a1 := x_a.fr 1
  replace q_b0 := x_b.c0; replace q_b1 := x_b.c1; replace f_b0 := x_b.fr 0; replace f_b1 := x_b.fr 1
  replace q_q0 := x_q.c0; replace q_q1 := x_q.c1; replace f_q0 := x_q.fr 0; replace f_q1 := x_q.fr 1
  replace q_r0 := x_r.c0; replace q_r1 := x_r.c1; replace f_r0 := x_r.fr 0; replace f_r1 := x_r.fr 1
  rw [vl_dg Wd2, vl_dg Wd2, HNQ.out] at g5
  rw [vl_dg Wd2, vl_dg Wd2, HNR.out] at g6
  have zn5 := g5.small hsQ
  have zn6 := g6.small hsR
  go_wp2_with fail
  with_reducible refine (RMake_any (b := (!(ngB X == ngB Y))) g5 NQ k (vl_dg Wd2 _) hsQ (by omega)).mono ?_
  rintro e v7 ⟨A7, n7, c7, rfl, zq, hb1⟩
  replace x_a := x_a.keep hb1
  replace x_b := x_b.keep hb1
  replace x_q := x_q.keep hb1
  replace x_r := x_r.keep hb1
  replace za := za.keep hb1
  replace zb := zb.keep hb1
  replace g5 := g5.go hb1
  replace g6 := g6.go hb1
  replace hb := bthen hb hb1
  clear hb1
  replace q_a0 := x_a.c0; replace q_a1 := x_a.c1; replace f_a0 := x_a.fr 0; replace f_a1 := x_a.fr 1
  replace q_b0 := x_b.c0; replace q_b1 := x_b.c1; replace f_b0 := x_b.fr 0; replace f_b1 := x_b.fr 1
  replace q_q0 := x_q.c0; replace q_q1 := x_q.c1; replace f_q0 := x_q.fr 0; replace f_q1 := x_q.fr 1
  replace q_r0 := x_r.c0; replace q_r1 := x_r.c1; replace f_r0 := x_r.fr 0; replace f_r1 := x_r.fr 1
  clear g5
  have y_a := (x_a.alloc (.cells #[.bool (ngB (zi (!(ngB X == ngB Y)) NQ)), .slice A7 n7 c7] 24)); have yq_a0 := y_a.c0; have yq_a1 := y_a.c1
  have y_b := (x_b.alloc (.cells #[.bool (ngB (zi (!(ngB X == ngB Y)) NQ)), .slice A7 n7 c7] 24)); have yq_b0 := y_b.c0; have yq_b1 := y_b.c1
  have y_q := (x_q.alloc (.cells #[.bool (ngB (zi (!(ngB X == ngB Y)) NQ)), .slice A7 n7 c7] 24)); have yq_q0 := y_q.c0; have yq_q1 := y_q.c1
  have y_r := (x_r.alloc (.cells #[.bool (ngB (zi (!(ngB X == ngB Y)) NQ)), .slice A7 n7 c7] 24)); have yq_r0 := y_r.c0; have yq_r1 := y_r.c1
  go_wp2_with fail
  clear y_a yq_a0 yq_a1 y_b yq_b0 yq_b1 y_q yq_q0 yq_q1 y_r yq_r0 yq_r1
  have hb1 := below_alloc v7 (.cells #[.bool (ngB (zi (!(ngB X == ngB Y)) NQ)), .slice A7 n7 c7] 24)
  have l_a_p := x_a.lt
  have l_b_p := x_b.lt
  have l_q_p := x_q.lt
  have l_r_p := x_r.lt
  have x_p := Bx.new v7 (ngB (zi (!(ngB X == ngB Y)) NQ)) A7 n7 c7
  have e_p : w.heap.size ≤ v7.heap.size := hb.size
  replace x_a := x_a.keep hb1
  replace x_b := x_b.keep hb1
  replace x_q := x_q.keep hb1
  replace x_r := x_r.keep hb1
  replace za := za.keep hb1
  replace zb := zb.keep hb1
  replace g6 := g6.go hb1
  replace zq := zq.keep hb1
  replace hb := bthen hb hb1
  clear hb1
  replace q_a0 := x_a.c0; replace q_a1 := x_a.c1; replace f_a0 := x_a.fr 0; replace f_a1 := x_a.fr 1
  replace q_b0 := x_b.c0; replace q_b1 := x_b.c1; replace f_b0 := x_b.fr 0; replace f_b1 := x_b.fr 1
  replace q_q0 := x_q.c0; replace q_q1 := x_q.c1; replace f_q0 := x_q.fr 0; replace f_q1 := x_q.fr 1
  replace q_r0 := x_r.c0; replace q_r1 := x_r.c1; replace f_r0 := x_r.fr 0; replace f_r1 := x_r.fr 1
  clear q_a0 q_a1 f_a0 f_a1 q_b0 q_b1 f_b0 f_b1 q_q0 q_q1 f_q0 f_q1 q_r0 q_r1 f_r0 f_r1
  generalize v7.alloc (.cells #[.bool (ngB (zi (!(ngB X == ngB Y)) NQ)), .slice A7 n7 c7] 24) = v8 at *
  have q_a0 := x_a.c0; have q_a1 := x_a.c1; have f_a0 := x_a.fr 0; have f_a1 := x_a.fr 1
  have q_b0 := x_b.c0; have q_b1 := x_b.c1; have f_b0 := x_b.fr 0; have f_b1 := x_b.fr 1
  have q_q0 := x_q.c0; have q_q1 := x_q.c1; have f_q0 := x_q.fr 0; have f_q1 := x_q.fr 1
  have q_r0 := x_r.c0; have q_r1 := x_r.c1; have f_r0 := x_r.fr 0; have f_r1 := x_r.fr 1
  have q_p0 := x_p.c0; have q_p1 := x_p.c1; have f_p0 := x_p.fr 0; have f_p1 := x_p.fr 1
  skip
  with_reducible refine (RMake_any (b := (ngB X)) g6 NR k (vl_dg Wd2 _) hsR (by omega)).mono ?_
  rintro e v9 ⟨A8, n8, c8, rfl, zr, hb1⟩
  replace x_a := x_a.keep hb1
  replace x_b := x_b.keep hb1
  replace x_q := x_q.keep hb1
  replace x_r := x_r.keep hb1
  replace x_p := x_p.keep hb1
  replace za := za.keep hb1
  replace zb := zb.keep hb1
  replace g6 := g6.go hb1
  replace zq := zq.keep hb1
  replace hb := bthen hb hb1
  clear hb1
  replace q_a0 := x_a.c0; replace q_a1 := x_a.c1; replace f_a0 := x_a.fr 0; replace f_a1 := x_a.fr 1
  replace q_b0 := x_b.c0; replace q_b1 := x_b.c1; replace f_b0 := x_b.fr 0; replace f_b1 := x_b.fr 1
  replace q_q0 := x_q.c0; replace q_q1 := x_q.c1; replace f_q0 := x_q.fr 0; replace f_q1 := x_q.fr 1
  replace q_r0 := x_r.c0; replace q_r1 := x_r.c1; replace f_r0 := x_r.fr 0; replace f_r1 := x_r.fr 1
  replace q_p0 := x_p.c0; replace q_p1 := x_p.c1; replace f_p0 := x_p.fr 0; replace f_p1 := x_p.fr 1
  rw [HNG.out]
  clear g6
  have y_a := (x_a.alloc (.cells #[.bool false, .slice A8 n8 c8] 24)); have yq_a0 := y_a.c0; have yq_a1 := y_a.c1
  have y_b := (x_b.alloc (.cells #[.bool false, .slice A8 n8 c8] 24)); have yq_b0 := y_b.c0; have yq_b1 := y_b.c1
  have y_q := (x_q.alloc (.cells #[.bool false, .slice A8 n8 c8] 24)); have yq_q0 := y_q.c0; have yq_q1 := y_q.c1
  have y_r := (x_r.alloc (.cells #[.bool false, .slice A8 n8 c8] 24)); have yq_r0 := y_r.c0; have yq_r1 := y_r.c1
  have y_p := (x_p.alloc (.cells #[.bool false, .slice A8 n8 c8] 24)); have yq_p0 := y_p.c0; have yq_p1 := y_p.c1
  go_wp2_with fail
  clear y_a yq_a0 yq_a1 y_b yq_b0 yq_b1 y_q yq_q0 yq_q1 y_r yq_r0 yq_r1 y_p yq_p0 yq_p1
  have hb1 := below_alloc v9 (.cells #[.bool false, .slice A8 n8 c8] 24)
  have l_a_s := x_a.lt
  have l_b_s := x_b.lt
  have l_q_s := x_q.lt
  have l_r_s := x_r.lt
  have l_p_s := x_p.lt
  have x_s := Bx.new v9 false A8 n8 c8
  have e_s : w.heap.size ≤ v9.heap.size := hb.size
  replace x_a := x_a.keep hb1
  replace x_b := x_b.keep hb1
  replace x_q := x_q.keep hb1
  replace x_r := x_r.keep hb1
  replace x_p := x_p.keep hb1
  replace za := za.keep hb1
  replace zb := zb.keep hb1
  replace zq := zq.keep hb1
  replace zr := zr.keep hb1
  replace hb := bthen hb hb1
  clear hb1
  replace q_a0 := x_a.c0; replace q_a1 := x_a.c1; replace f_a0 := x_a.fr 0; replace f_a1 := x_a.fr 1
  replace q_b0 := x_b.c0; replace q_b1 := x_b.c1; replace f_b0 := x_b.fr 0; replace f_b1 := x_b.fr 1
  replace q_q0 := x_q.c0; replace q_q1 := x_q.c1; replace f_q0 := x_q.fr 0; replace f_q1 := x_q.fr 1
  replace q_r0 := x_r.c0; replace q_r1 := x_r.c1; replace f_r0 := x_r.fr 0; replace f_r1 := x_r.fr 1
  replace q_p0 := x_p.c0; replace q_p1 := x_p.c1; replace f_p0 := x_p.fr 0; replace f_p1 := x_p.fr 1
  clear q_a0 q_a1 f_a0 f_a1 q_b0 q_b1 f_b0 f_b1 q_q0 q_q1 f_q0 f_q1 q_r0 q_r1 f_r0 f_r1 q_p0 q_p1 f_p0 f_p1
  generalize v9.alloc (.cells #[.bool false, .slice A8 n8 c8] 24) = v10 at *
  have q_a0 := x_a.c0; have q_a1 := x_a.c1; have f_a0 := x_a.fr 0; have f_a1 := x_a.fr 1
  have q_b0 := x_b.c0; have q_b1 := x_b.c1; have f_b0 := x_b.fr 0; have f_b1 := x_b.fr 1
  have q_q0 := x_q.c0; have q_q1 := x_q.c1; have f_q0 := x_q.fr 0; have f_q1 := x_q.fr 1
  have q_r0 := x_r.c0; have q_r1 := x_r.c1; have f_r0 := x_r.fr 0; have f_r1 := x_r.fr 1
  have q_p0 := x_p.c0; have q_p1 := x_p.c1; have f_p0 := x_p.fr 0; have f_p1 := x_p.fr 1
  have q_s0 := x_s.c0; have q_s1 := x_s.c1; have f_s0 := x_s.fr 0; have f_s1 := x_s.fr 1
  skip
  go_region_held3 (fun w' => w'.cell? ⟨v7.heap.size, 0, none⟩ = some (.bool (ngB (zi (!(ngB X == ngB Y)) NQ))) ∧ w'.cell? ⟨v7.heap.size, 1, none⟩ = some (.slice A7 n7 c7) ∧ w'.cell? ⟨v9.heap.size, 0, none⟩ = some (.bool false) ∧ w'.cell? ⟨v9.heap.size, 1, none⟩ = some (.slice A8 n8 c8))
    (first | (with_reducible exact ⟨x_p.drew.c0, x_p.drew.c1, x_s.drew.c0, x_s.drew.c1⟩) | (with_reducible exact ⟨(x_p.aside (by omega)).drew.c0, (x_p.aside (by omega)).drew.c1, (x_s.aside (by omega)).drew.c0, (x_s.aside (by omega)).drew.c1⟩) | (with_reducible exact ⟨((x_p.aside (by omega)).aside (by omega)).drew.c0, ((x_p.aside (by omega)).aside (by omega)).drew.c1, ((x_s.aside (by omega)).aside (by omega)).drew.c0, ((x_s.aside (by omega)).aside (by omega)).drew.c1⟩) | go_keep)
    (first | fail)
  skip
  replace x_a := x_a.aside (b' := (ngB (zi (!(ngB X == ngB Y)) NQ))) (A' := A7) (n' := n7) (c' := c7) (g := w.heap.size + 1 + 1) (by omega)
  replace x_b := x_b.aside (b' := (ngB (zi (!(ngB X == ngB Y)) NQ))) (A' := A7) (n' := n7) (c' := c7) (g := w.heap.size + 1 + 1) (by omega)
  replace x_r := x_r.aside (b' := (ngB (zi (!(ngB X == ngB Y)) NQ))) (A' := A7) (n' := n7) (c' := c7) (g := w.heap.size + 1 + 1) (by omega)
  replace x_p := x_p.aside (b' := (ngB (zi (!(ngB X == ngB Y)) NQ))) (A' := A7) (n' := n7) (c' := c7) (g := w.heap.size + 1 + 1) (by omega)
  replace x_s := x_s.aside (b' := (ngB (zi (!(ngB X == ngB Y)) NQ))) (A' := A7) (n' := n7) (c' := c7) (g := w.heap.size + 1 + 1) (by omega)
  replace za := za.put (b' := (ngB (zi (!(ngB X == ngB Y)) NQ))) (A' := A7) (n' := n7) (c' := c7) x_q
  replace zb := zb.put (b' := (ngB (zi (!(ngB X == ngB Y)) NQ))) (A' := A7) (n' := n7) (c' := c7) x_q
  replace zq := zq.put (b' := (ngB (zi (!(ngB X == ngB Y)) NQ))) (A' := A7) (n' := n7) (c' := c7) x_q
  replace zr := zr.put (b' := (ngB (zi (!(ngB X == ngB Y)) NQ))) (A' := A7) (n' := n7) (c' := c7) x_q
  replace hb := put_below (g := w.heap.size + 1 + 1) hb (by omega) (.bool (ngB (zi (!(ngB X == ngB Y)) NQ))) (.slice A7 n7 c7)
  replace x_q := x_q.put (ngB (zi (!(ngB X == ngB Y)) NQ)) A7 n7 c7
  clear q_a0 q_a1 f_a0 f_a1 q_b0 q_b1 f_b0 f_b1 q_q0 q_q1 f_q0 f_q1 q_r0 q_r1 f_r0 f_r1 q_p0 q_p1 f_p0 f_p1 q_s0 q_s1 f_s0 f_s1
  generalize (v10.setCell ⟨w.heap.size + 1 + 1, 0, none⟩ (.bool (ngB (zi (!(ngB X == ngB Y)) NQ)))).setCell ⟨w.heap.size + 1 + 1, 1, none⟩ (.slice A7 n7 c7) = v11 at *
  have q_a0 := x_a.c0; have q_a1 := x_a.c1; have f_a0 := x_a.fr 0; have f_a1 := x_a.fr 1
  have q_b0 := x_b.c0; have q_b1 := x_b.c1; have f_b0 := x_b.fr 0; have f_b1 := x_b.fr 1
  have q_q0 := x_q.c0; have q_q1 := x_q.c1; have f_q0 := x_q.fr 0; have f_q1 := x_q.fr 1
  have q_r0 := x_r.c0; have q_r1 := x_r.c1; have f_r0 := x_r.fr 0; have f_r1 := x_r.fr 1
  have q_p0 := x_p.c0; have q_p1 := x_p.c1; have f_p0 := x_p.fr 0; have f_p1 := x_p.fr 1
  have q_s0 := x_s.c0; have q_s1 := x_s.c1; have f_s0 := x_s.fr 0; have f_s1 := x_s.fr 1
  replace x_a := x_a.aside (b' := false) (A' := A8) (n' := n8) (c' := c8) (g := w.heap.size + 1 + 1 + 1) (by omega)
  replace x_b := x_b.aside (b' := false) (A' := A8) (n' := n8) (c' := c8) (g := w.heap.size + 1 + 1 + 1) (by omega)
  replace x_q := x_q.aside (b' := false) (A' := A8) (n' := n8) (c' := c8) (g := w.heap.size + 1 + 1 + 1) (by omega)
  replace x_p := x_p.aside (b' := false) (A' := A8) (n' := n8) (c' := c8) (g := w.heap.size + 1 + 1 + 1) (by omega)
  replace x_s := x_s.aside (b' := false) (A' := A8) (n' := n8) (c' := c8) (g := w.heap.size + 1 + 1 + 1) (by omega)
  replace za := za.put (b' := false) (A' := A8) (n' := n8) (c' := c8) x_r
  replace zb := zb.put (b' := false) (A' := A8) (n' := n8) (c' := c8) x_r
  replace zq := zq.put (b' := false) (A' := A8) (n' := n8) (c' := c8) x_r
  replace zr := zr.put (b' := false) (A' := A8) (n' := n8) (c' := c8) x_r
  replace hb := put_below (g := w.heap.size + 1 + 1 + 1) hb (by omega) (.bool false) (.slice A8 n8 c8)
  replace x_r := x_r.put false A8 n8 c8
  clear q_a0 q_a1 f_a0 f_a1 q_b0 q_b1 f_b0 f_b1 q_q0 q_q1 f_q0 f_q1 q_r0 q_r1 f_r0 f_r1 q_p0 q_p1 f_p0 f_p1 q_s0 q_s1 f_s0 f_s1
  generalize (v11.setCell ⟨w.heap.size + 1 + 1 + 1, 0, none⟩ (.bool false)).setCell ⟨w.heap.size + 1 + 1 + 1, 1, none⟩ (.slice A8 n8 c8) = v12 at *
  have q_a0 := x_a.c0; have q_a1 := x_a.c1; have f_a0 := x_a.fr 0; have f_a1 := x_a.fr 1
  have q_b0 := x_b.c0; have q_b1 := x_b.c1; have f_b0 := x_b.fr 0; have f_b1 := x_b.fr 1
  have q_q0 := x_q.c0; have q_q1 := x_q.c1; have f_q0 := x_q.fr 0; have f_q1 := x_q.fr 1
  have q_r0 := x_r.c0; have q_r1 := x_r.c1; have f_r0 := x_r.fr 0; have f_r1 := x_r.fr 1
  have q_p0 := x_p.c0; have q_p1 := x_p.c1; have f_p0 := x_p.fr 0; have f_p1 := x_p.fr 1
  have q_s0 := x_s.c0; have q_s1 := x_s.c1; have f_s0 := x_s.fr 0; have f_s1 := x_s.fr 1
  replace x_a := x_a.drew
  replace x_b := x_b.drew
  replace x_q := x_q.drew
  replace x_r := x_r.drew
  replace x_p := x_p.drew
  replace x_s := x_s.drew
  replace za := za.drw
  replace zb := zb.drw
  replace zq := zq.drw
  replace zr := zr.drw
  replace hb := below_drew hb
  clear q_a0 q_a1 f_a0 f_a1 q_b0 q_b1 f_b0 f_b1 q_q0 q_q1 f_q0 f_q1 q_r0 q_r1 f_r0 f_r1 q_p0 q_p1 f_p0 f_p1 q_s0 q_s1 f_s0 f_s1
  generalize v12.drew = v13 at *
  have q_a0 := x_a.c0; have q_a1 := x_a.c1; have f_a0 := x_a.fr 0; have f_a1 := x_a.fr 1
  have q_b0 := x_b.c0; have q_b1 := x_b.c1; have f_b0 := x_b.fr 0; have f_b1 := x_b.fr 1
  have q_q0 := x_q.c0; have q_q1 := x_q.c1; have f_q0 := x_q.fr 0; have f_q1 := x_q.fr 1
  have q_r0 := x_r.c0; have q_r1 := x_r.c1; have f_r0 := x_r.fr 0; have f_r1 := x_r.fr 1
  have q_p0 := x_p.c0; have q_p1 := x_p.c1; have f_p0 := x_p.fr 0; have f_p1 := x_p.fr 1
  have q_s0 := x_s.c0; have q_s1 := x_s.c1; have f_s0 := x_s.fr 0; have f_s1 := x_s.fr 1
  go_wp2
  refine bodyPost_ret (v := .tuple #[.agg #[.bool (ngB (zi (!(ngB X == ngB Y)) NQ)), .slice A7 n7 c7], .agg #[.bool false, .slice A8 n8 c8], .bool true]) (by simp [results, Try.results42, go_sem, q_q0, q_q1, q_r0, q_r1]) rfl ?_
  exact ⟨_, _, _, _, _, _, by rw [HNG.out], zq.wide (by omega), zr.wide (by omega), hb⟩
end Go.Proofs.Ythnffjgbglncbaa
