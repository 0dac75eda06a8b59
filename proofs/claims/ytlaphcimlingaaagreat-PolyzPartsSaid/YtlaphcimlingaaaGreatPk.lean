/-
  The document's answer for zed: Round, Up, Gcd.
-/
import Derived.Test.YtlaphcimlingaaaGreatPj
namespace Go.Proofs.YtlaphcimlingaaaGreat
section
set_option maxRecDepth 100000
open Go.RowKit
set_option linter.unusedVariables false

set_option maxRecDepth 100000 in
set_option maxHeartbeats 16000000 in
theorem RDivModZ_plain {b b2 : Bool} {A A2 : Option Addr} {n c n2 c2 : Nat} {X Y : Int} {j j2 : Nat} {w : World} (h : Zr w b A n c X j) (h2 : Zr w b2 A2 n2 c2 Y j2) (hY : Y ≠ 0) (k : Nat) (hk : j + 1 ≤ k) (hk2 : j2 + 1 ≤ k) (hj : k ≤ 10000) (hng : ngB (zi (ngB X) (X.natAbs % Y.natAbs)) = false) :
    Calls Tryz.prog 107 #[.agg #[.bool b, .slice A n c], .agg #[.bool b2, .slice A2 n2 c2]] w (DqPost w (X / Y) (X % Y) (k + 1)) := by
  have hs : Sm X.natAbs (k - 1) := (h.si).mono (by omega)
  have hs2 : Sm Y.natAbs (k - 1) := (h2.si).mono (by omega)
  have hM0 : 0 < Y.natAbs := by omega
  have hsQ : Sm (X.natAbs / Y.natAbs) k := (hs.div _).mono (by omega)
  have hsR : Sm (X.natAbs % Y.natAbs) k := (hs.mod).mono (by omega)
  obtain ⟨e1, e2⟩ := rdm_plain hY hng
  rw [e1, e2]
  clear e1 e2 hs hs2
  generalize hQ9 : X.natAbs / Y.natAbs = NQ at *
  generalize hR9 : X.natAbs % Y.natAbs = NR at *
  have HNQ := Lib.hid hQ9; have HNR := Lib.hid hR9; have HNG := Lib.hid hng; clear hQ9 hR9 hng
  go_enter Tryz.func107, Tryz.ntmps107
  go_wp2_with fail
  obtain ⟨hb, x_a, x_b, x_q, x_r⟩ := box4 w b A n c b2 A2 n2 c2 false none 0 0 false none 0 0
  generalize (((w.alloc (.cells #[.bool b, .slice A n c] 26)).alloc (.cells #[.bool b2, .slice A2 n2 c2] 26)).alloc (.cells #[.bool false, .slice none 0 0] 26)).alloc (.cells #[.bool false, .slice none 0 0] 26) = v1 at *
  obtain ⟨h, h2⟩ := mv2 hb h h2
  have q_a := x_a.al
  have q_b := x_b.al
  have q_q := x_q.al
  have q_r := x_r.al
  go_wp2_with fail
  with_reducible refine (RNormZ_any h j (Nat.le_refl _) (by omega)).mono ?_
  rintro e v2 ⟨A3, n3, c3, rfl, za, hb1⟩
  obtain ⟨x_a, x_b, x_q, x_r, h, h2⟩ := mv6 hb1 x_a x_b x_q x_r h h2
  replace hb := bthen hb hb1
  clear hb1
  replace q_a := x_a.al
  replace q_b := x_b.al
  replace q_q := x_q.al
  replace q_r := x_r.al
  clear h
  go_wp2_with fail
  replace x_b := x_b.aside (b' := (ngB X)) (A' := A3) (n' := n3) (c' := c3) (g := w.heap.size) (by omega)
  replace x_q := x_q.aside (b' := (ngB X)) (A' := A3) (n' := n3) (c' := c3) (g := w.heap.size) (by omega)
  replace x_r := x_r.aside (b' := (ngB X)) (A' := A3) (n' := n3) (c' := c3) (g := w.heap.size) (by omega)
  replace h2 := h2.put (b' := (ngB X)) (A' := A3) (n' := n3) (c' := c3) x_a
  replace za := za.put (b' := (ngB X)) (A' := A3) (n' := n3) (c' := c3) x_a
  replace hb := put_below (g := w.heap.size) hb (by omega) (.bool (ngB X)) (.slice A3 n3 c3)
  replace x_a := x_a.put (ngB X) A3 n3 c3
  clear q_a q_b q_q q_r
  generalize (v2.setCell ⟨w.heap.size, 0, none⟩ (.bool (ngB X))).setCell ⟨w.heap.size, 1, none⟩ (.slice A3 n3 c3) = v3 at *
  have q_a := x_a.al
  have q_b := x_b.al
  have q_q := x_q.al
  have q_r := x_r.al
  with_reducible refine (RNormZ_any h2 j2 (Nat.le_refl _) (by omega)).mono ?_
  rintro e v4 ⟨A4, n4, c4, rfl, zb, hb1⟩
  obtain ⟨x_a, x_b, x_q, x_r, h2, za⟩ := mv6 hb1 x_a x_b x_q x_r h2 za
  replace hb := bthen hb hb1
  clear hb1
  replace q_a := x_a.al
  replace q_b := x_b.al
  replace q_q := x_q.al
  replace q_r := x_r.al
  clear h2
  go_wp2_with fail
  replace x_a := x_a.aside (b' := (ngB Y)) (A' := A4) (n' := n4) (c' := c4) (g := w.heap.size + 1) (by omega)
  replace x_q := x_q.aside (b' := (ngB Y)) (A' := A4) (n' := n4) (c' := c4) (g := w.heap.size + 1) (by omega)
  replace x_r := x_r.aside (b' := (ngB Y)) (A' := A4) (n' := n4) (c' := c4) (g := w.heap.size + 1) (by omega)
  replace za := za.put (b' := (ngB Y)) (A' := A4) (n' := n4) (c' := c4) x_b
  replace zb := zb.put (b' := (ngB Y)) (A' := A4) (n' := n4) (c' := c4) x_b
  replace hb := put_below (g := w.heap.size + 1) hb (by omega) (.bool (ngB Y)) (.slice A4 n4 c4)
  replace x_b := x_b.put (ngB Y) A4 n4 c4
  clear q_a q_b q_q q_r
  generalize (v4.setCell ⟨w.heap.size + 1, 0, none⟩ (.bool (ngB Y))).setCell ⟨w.heap.size + 1, 1, none⟩ (.slice A4 n4 c4) = v5 at *
  have q_a := x_a.al
  have q_b := x_b.al
  have q_q := x_q.al
  have q_r := x_r.al
  skip
  with_reducible refine (RDivMod_any _ _ _ _ _ _ _ _ _ za.rd zb.rd (by have := za.lek; omega) (by have := zb.lek; omega) (by rw [vl_dg Wd2]; exact hM0)).mono ?_
  rintro e v6 ⟨A5, n5, c5, A6, n6, c6, rfl, g5, g6, hb1⟩
  obtain ⟨x_a, x_b, x_q, x_r, za, zb⟩ := mv6 hb1 x_a x_b x_q x_r za zb
  replace hb := bthen hb hb1
  clear hb1
  replace q_a := x_a.al
  replace q_b := x_b.al
  replace q_q := x_q.al
  replace q_r := x_r.al
  rw [vl_dg Wd2, vl_dg Wd2, HNQ.out] at g5
  rw [vl_dg Wd2, vl_dg Wd2, HNR.out] at g6
  have zn5 := g5.small hsQ
  have zn6 := g6.small hsR
  go_wp2_with fail
  with_reducible refine (RMake_any (b := (!(ngB X == ngB Y))) g5 NQ k (vl_dg Wd2 _) hsQ (by omega)).mono ?_
  rintro e v7 ⟨A7, n7, c7, rfl, zq, hb1⟩
  obtain ⟨x_a, x_b, x_q, x_r, za, zb⟩ := mv6 hb1 x_a x_b x_q x_r za zb
  replace g5 := g5.go hb1
  replace g6 := g6.go hb1
  replace hb := bthen hb hb1
  clear hb1
  replace q_a := x_a.al
  replace q_b := x_b.al
  replace q_q := x_q.al
  replace q_r := x_r.al
  clear g5
  have y_a := (x_a.alloc (.cells #[.bool (ngB (zi (!(ngB X == ngB Y)) NQ)), .slice A7 n7 c7] 26)); have yq_a0 := y_a.c0; have yq_a1 := y_a.c1
  have y_b := (x_b.alloc (.cells #[.bool (ngB (zi (!(ngB X == ngB Y)) NQ)), .slice A7 n7 c7] 26)); have yq_b0 := y_b.c0; have yq_b1 := y_b.c1
  have y_q := (x_q.alloc (.cells #[.bool (ngB (zi (!(ngB X == ngB Y)) NQ)), .slice A7 n7 c7] 26)); have yq_q0 := y_q.c0; have yq_q1 := y_q.c1
  have y_r := (x_r.alloc (.cells #[.bool (ngB (zi (!(ngB X == ngB Y)) NQ)), .slice A7 n7 c7] 26)); have yq_r0 := y_r.c0; have yq_r1 := y_r.c1
  go_wp2_with fail
  clear y_a yq_a0 yq_a1 y_b yq_b0 yq_b1 y_q yq_q0 yq_q1 y_r yq_r0 yq_r1
  have hb1 := below_alloc v7 (.cells #[.bool (ngB (zi (!(ngB X == ngB Y)) NQ)), .slice A7 n7 c7] 26)
  have l_a_p := x_a.lt
  have l_b_p := x_b.lt
  have l_q_p := x_q.lt
  have l_r_p := x_r.lt
  have x_p := Bx.new v7 (ngB (zi (!(ngB X == ngB Y)) NQ)) A7 n7 c7
  have e_p : w.heap.size ≤ v7.heap.size := hb.size
  obtain ⟨x_a, x_b, x_q, x_r, za, zb⟩ := mv6 hb1 x_a x_b x_q x_r za zb
  replace g6 := g6.go hb1
  replace zq := zq.keep hb1
  replace hb := bthen hb hb1
  clear hb1
  replace q_a := x_a.al
  replace q_b := x_b.al
  replace q_q := x_q.al
  replace q_r := x_r.al
  clear q_a q_b q_q q_r
  generalize v7.alloc (.cells #[.bool (ngB (zi (!(ngB X == ngB Y)) NQ)), .slice A7 n7 c7] 26) = v8 at *
  have q_a := x_a.al
  have q_b := x_b.al
  have q_q := x_q.al
  have q_r := x_r.al
  have q_p := x_p.al
  skip
  with_reducible refine (RMake_any (b := (ngB X)) g6 NR k (vl_dg Wd2 _) hsR (by omega)).mono ?_
  rintro e v9 ⟨A8, n8, c8, rfl, zr, hb1⟩
  obtain ⟨x_a, x_b, x_q, x_r, x_p, za, zb⟩ := mv7 hb1 x_a x_b x_q x_r x_p za zb
  replace g6 := g6.go hb1
  replace zq := zq.keep hb1
  replace hb := bthen hb hb1
  clear hb1
  replace q_a := x_a.al
  replace q_b := x_b.al
  replace q_q := x_q.al
  replace q_r := x_r.al
  replace q_p := x_p.al
  rw [HNG.out]
  clear g6
  have y_a := (x_a.alloc (.cells #[.bool false, .slice A8 n8 c8] 26)); have yq_a0 := y_a.c0; have yq_a1 := y_a.c1
  have y_b := (x_b.alloc (.cells #[.bool false, .slice A8 n8 c8] 26)); have yq_b0 := y_b.c0; have yq_b1 := y_b.c1
  have y_q := (x_q.alloc (.cells #[.bool false, .slice A8 n8 c8] 26)); have yq_q0 := y_q.c0; have yq_q1 := y_q.c1
  have y_r := (x_r.alloc (.cells #[.bool false, .slice A8 n8 c8] 26)); have yq_r0 := y_r.c0; have yq_r1 := y_r.c1
  have y_p := (x_p.alloc (.cells #[.bool false, .slice A8 n8 c8] 26)); have yq_p0 := y_p.c0; have yq_p1 := y_p.c1
  go_wp2_with fail
  clear y_a yq_a0 yq_a1 y_b yq_b0 yq_b1 y_q yq_q0 yq_q1 y_r yq_r0 yq_r1 y_p yq_p0 yq_p1
  have hb1 := below_alloc v9 (.cells #[.bool false, .slice A8 n8 c8] 26)
  have l_a_s := x_a.lt
  have l_b_s := x_b.lt
  have l_q_s := x_q.lt
  have l_r_s := x_r.lt
  have l_p_s := x_p.lt
  have x_s := Bx.new v9 false A8 n8 c8
  have e_s : w.heap.size ≤ v9.heap.size := hb.size
  obtain ⟨x_a, x_b, x_q, x_r, x_p, za, zb, zq, zr⟩ := mv9 hb1 x_a x_b x_q x_r x_p za zb zq zr
  replace hb := bthen hb hb1
  clear hb1
  replace q_a := x_a.al
  replace q_b := x_b.al
  replace q_q := x_q.al
  replace q_r := x_r.al
  replace q_p := x_p.al
  clear q_a q_b q_q q_r q_p
  generalize v9.alloc (.cells #[.bool false, .slice A8 n8 c8] 26) = v10 at *
  have q_a := x_a.al
  have q_b := x_b.al
  have q_q := x_q.al
  have q_r := x_r.al
  have q_p := x_p.al
  have q_s := x_s.al
  skip
  go_region_held3 (fun w' => w'.cell? ⟨v7.heap.size, 0, none⟩ = some (.bool (ngB (zi (!(ngB X == ngB Y)) NQ))) ∧ w'.cell? ⟨v7.heap.size, 1, none⟩ = some (.slice A7 n7 c7) ∧ w'.cell? ⟨v9.heap.size, 0, none⟩ = some (.bool false) ∧ w'.cell? ⟨v9.heap.size, 1, none⟩ = some (.slice A8 n8 c8))
    (first | (with_reducible exact ⟨x_p.drew.c0, x_p.drew.c1, x_s.drew.c0, x_s.drew.c1⟩) | (with_reducible exact ⟨(x_p.aside (by omega)).drew.c0, (x_p.aside (by omega)).drew.c1, (x_s.aside (by omega)).drew.c0, (x_s.aside (by omega)).drew.c1⟩) | (with_reducible exact ⟨((x_p.aside (by omega)).aside (by omega)).drew.c0, ((x_p.aside (by omega)).aside (by omega)).drew.c1, ((x_s.aside (by omega)).aside (by omega)).drew.c0, ((x_s.aside (by omega)).aside (by omega)).drew.c1⟩) | go_keep)
    (first | fail)
  skip
  replace x_a := x_a.aside (b' := (ngB (zi (!(ngB X == ngB Y)) NQ))) (A' := A7) (n' := n7) (c' := c7) (g := w.heap.size + 1 + 1) (by omega)
  replace x_b := x_b.aside (b' := (ngB (zi (!(ngB X == ngB Y)) NQ))) (A' := A7) (n' := n7) (c' := c7) (g := w.heap.size + 1 + 1) (by omega)
  replace x_r := x_r.aside (b' := (ngB (zi (!(ngB X == ngB Y)) NQ))) (A' := A7) (n' := n7) (c' := c7) (g := w.heap.size + 1 + 1) (by omega)
  replace x_p := x_p.aside (b' := (ngB (zi (!(ngB X == ngB Y)) NQ))) (A' := A7) (n' := n7) (c' := c7) (g := w.heap.size + 1 + 1) (by omega)
  replace x_s := x_s.aside (b' := (ngB (zi (!(ngB X == ngB Y)) NQ))) (A' := A7) (n' := n7) (c' := c7) (g := w.heap.size + 1 + 1) (by omega)
  replace za := za.put (b' := (ngB (zi (!(ngB X == ngB Y)) NQ))) (A' := A7) (n' := n7) (c' := c7) x_q
  replace zb := zb.put (b' := (ngB (zi (!(ngB X == ngB Y)) NQ))) (A' := A7) (n' := n7) (c' := c7) x_q
  replace zq := zq.put (b' := (ngB (zi (!(ngB X == ngB Y)) NQ))) (A' := A7) (n' := n7) (c' := c7) x_q
  replace zr := zr.put (b' := (ngB (zi (!(ngB X == ngB Y)) NQ))) (A' := A7) (n' := n7) (c' := c7) x_q
  replace hb := put_below (g := w.heap.size + 1 + 1) hb (by omega) (.bool (ngB (zi (!(ngB X == ngB Y)) NQ))) (.slice A7 n7 c7)
  replace x_q := x_q.put (ngB (zi (!(ngB X == ngB Y)) NQ)) A7 n7 c7
  clear q_a q_b q_q q_r q_p q_s
  generalize (v10.setCell ⟨w.heap.size + 1 + 1, 0, none⟩ (.bool (ngB (zi (!(ngB X == ngB Y)) NQ)))).setCell ⟨w.heap.size + 1 + 1, 1, none⟩ (.slice A7 n7 c7) = v11 at *
  have q_a := x_a.al
  have q_b := x_b.al
  have q_q := x_q.al
  have q_r := x_r.al
  have q_p := x_p.al
  have q_s := x_s.al
  replace x_a := x_a.aside (b' := false) (A' := A8) (n' := n8) (c' := c8) (g := w.heap.size + 1 + 1 + 1) (by omega)
  replace x_b := x_b.aside (b' := false) (A' := A8) (n' := n8) (c' := c8) (g := w.heap.size + 1 + 1 + 1) (by omega)
  replace x_q := x_q.aside (b' := false) (A' := A8) (n' := n8) (c' := c8) (g := w.heap.size + 1 + 1 + 1) (by omega)
  replace x_p := x_p.aside (b' := false) (A' := A8) (n' := n8) (c' := c8) (g := w.heap.size + 1 + 1 + 1) (by omega)
  replace x_s := x_s.aside (b' := false) (A' := A8) (n' := n8) (c' := c8) (g := w.heap.size + 1 + 1 + 1) (by omega)
  replace za := za.put (b' := false) (A' := A8) (n' := n8) (c' := c8) x_r
  replace zb := zb.put (b' := false) (A' := A8) (n' := n8) (c' := c8) x_r
  replace zq := zq.put (b' := false) (A' := A8) (n' := n8) (c' := c8) x_r
  replace zr := zr.put (b' := false) (A' := A8) (n' := n8) (c' := c8) x_r
  replace hb := put_below (g := w.heap.size + 1 + 1 + 1) hb (by omega) (.bool false) (.slice A8 n8 c8)
  replace x_r := x_r.put false A8 n8 c8
  clear q_a q_b q_q q_r q_p q_s
  generalize (v11.setCell ⟨w.heap.size + 1 + 1 + 1, 0, none⟩ (.bool false)).setCell ⟨w.heap.size + 1 + 1 + 1, 1, none⟩ (.slice A8 n8 c8) = v12 at *
  have q_a := x_a.al
  have q_b := x_b.al
  have q_q := x_q.al
  have q_r := x_r.al
  have q_p := x_p.al
  have q_s := x_s.al
  replace x_a := x_a.drew
  replace x_b := x_b.drew
  replace x_q := x_q.drew
  replace x_r := x_r.drew
  replace x_p := x_p.drew
  replace x_s := x_s.drew
  replace za := za.drw
  replace zb := zb.drw
  replace zq := zq.drw
  replace zr := zr.drw
  replace hb := below_drew hb
  clear q_a q_b q_q q_r q_p q_s
  generalize v12.drew = v13 at *
  have q_a := x_a.al
  have q_b := x_b.al
  have q_q := x_q.al
  have q_r := x_r.al
  have q_p := x_p.al
  have q_s := x_s.al
  go_wp2
  refine bodyPost_ret (v := .tuple #[.agg #[.bool (ngB (zi (!(ngB X == ngB Y)) NQ)), .slice A7 n7 c7], .agg #[.bool false, .slice A8 n8 c8], .bool true]) (by simp [results, Tryz.results107, go_sem, q_q, q_r]) rfl ?_
  exact ⟨_, _, _, _, _, _, by rw [HNG.out], zq.wide (by omega), zr.wide (by omega), hb⟩
end
end Go.Proofs.YtlaphcimlingaaaGreat
namespace Go.Proofs.YtlaphcimlingaaaGreat
section
set_option maxRecDepth 100000
open Go.RowKit
set_option linter.unusedVariables false

set_option maxRecDepth 100000 in
set_option maxHeartbeats 32000000 in
theorem RDivModZ_moref {b b2 : Bool} {A A2 : Option Addr} {n c n2 c2 : Nat} {X Y : Int} {j j2 : Nat} {w : World} (h : Zr w b A n c X j) (h2 : Zr w b2 A2 n2 c2 Y j2) (hY : Y ≠ 0) (k : Nat) (hk : j + 1 ≤ k) (hk2 : j2 + 1 ≤ k) (hj : k ≤ 10000) (hng : ngB (zi (ngB X) (X.natAbs % Y.natAbs)) = true) (hny : ngB Y = false) :
    Calls Tryz.prog 107 #[.agg #[.bool b, .slice A n c], .agg #[.bool b2, .slice A2 n2 c2]] w (DqPost w (X / Y) (X % Y) (k + 1)) := by
  have hs : Sm X.natAbs (k - 1) := (h.si).mono (by omega)
  have hs2 : Sm Y.natAbs (k - 1) := (h2.si).mono (by omega)
  have hM0 : 0 < Y.natAbs := by omega
  have hsQ : Sm (X.natAbs / Y.natAbs) k := (hs.div _).mono (by omega)
  have hsR : Sm (X.natAbs % Y.natAbs) k := (hs.mod).mono (by omega)
  obtain ⟨hx, e2, eT, eF⟩ := rdm_more hY hng
  rw [e2, eF hny]
  clear e2 eT eF hs hs2
  rw [hx, hny, show (!(true == false)) = true from rfl]
  rw [hx] at hng
  generalize hQ9 : X.natAbs / Y.natAbs = NQ at *
  generalize hR9 : X.natAbs % Y.natAbs = NR at *
  have HNQ := Lib.hid hQ9; have HNR := Lib.hid hR9; have HNG := Lib.hid hng; have HNX := Lib.hid hx; have HNY := Lib.hid hny; clear hQ9 hR9 hng hx hny
  go_enter Tryz.func107, Tryz.ntmps107
  go_wp2_with fail
  obtain ⟨hb, x_a, x_b, x_q, x_r⟩ := box4 w b A n c b2 A2 n2 c2 false none 0 0 false none 0 0
  generalize (((w.alloc (.cells #[.bool b, .slice A n c] 26)).alloc (.cells #[.bool b2, .slice A2 n2 c2] 26)).alloc (.cells #[.bool false, .slice none 0 0] 26)).alloc (.cells #[.bool false, .slice none 0 0] 26) = v1 at *
  obtain ⟨h, h2⟩ := mv2 hb h h2
  have q_a := x_a.al
  have q_b := x_b.al
  have q_q := x_q.al
  have q_r := x_r.al
  go_wp2_with fail
  with_reducible refine (RNormZ_any h j (Nat.le_refl _) (by omega)).mono ?_
  rintro e v2 ⟨A3, n3, c3, rfl, za, hb1⟩
  obtain ⟨x_a, x_b, x_q, x_r, h, h2⟩ := mv6 hb1 x_a x_b x_q x_r h h2
  replace hb := bthen hb hb1
  clear hb1
  replace q_a := x_a.al
  replace q_b := x_b.al
  replace q_q := x_q.al
  replace q_r := x_r.al
  rw [HNX.out]
  clear h
  go_wp2_with fail
  replace x_b := x_b.aside (b' := true) (A' := A3) (n' := n3) (c' := c3) (g := w.heap.size) (by omega)
  replace x_q := x_q.aside (b' := true) (A' := A3) (n' := n3) (c' := c3) (g := w.heap.size) (by omega)
  replace x_r := x_r.aside (b' := true) (A' := A3) (n' := n3) (c' := c3) (g := w.heap.size) (by omega)
  replace h2 := h2.put (b' := true) (A' := A3) (n' := n3) (c' := c3) x_a
  replace za := za.put (b' := true) (A' := A3) (n' := n3) (c' := c3) x_a
  replace hb := put_below (g := w.heap.size) hb (by omega) (.bool true) (.slice A3 n3 c3)
  replace x_a := x_a.put true A3 n3 c3
  clear q_a q_b q_q q_r
  generalize (v2.setCell ⟨w.heap.size, 0, none⟩ (.bool true)).setCell ⟨w.heap.size, 1, none⟩ (.slice A3 n3 c3) = v3 at *
  have q_a := x_a.al
  have q_b := x_b.al
  have q_q := x_q.al
  have q_r := x_r.al
  with_reducible refine (RNormZ_any h2 j2 (Nat.le_refl _) (by omega)).mono ?_
  rintro e v4 ⟨A4, n4, c4, rfl, zb, hb1⟩
  obtain ⟨x_a, x_b, x_q, x_r, h2, za⟩ := mv6 hb1 x_a x_b x_q x_r h2 za
  replace hb := bthen hb hb1
  clear hb1
  replace q_a := x_a.al
  replace q_b := x_b.al
  replace q_q := x_q.al
  replace q_r := x_r.al
  rw [HNY.out]
  clear h2
  go_wp2_with fail
  replace x_a := x_a.aside (b' := false) (A' := A4) (n' := n4) (c' := c4) (g := w.heap.size + 1) (by omega)
  replace x_q := x_q.aside (b' := false) (A' := A4) (n' := n4) (c' := c4) (g := w.heap.size + 1) (by omega)
  replace x_r := x_r.aside (b' := false) (A' := A4) (n' := n4) (c' := c4) (g := w.heap.size + 1) (by omega)
  replace za := za.put (b' := false) (A' := A4) (n' := n4) (c' := c4) x_b
  replace zb := zb.put (b' := false) (A' := A4) (n' := n4) (c' := c4) x_b
  replace hb := put_below (g := w.heap.size + 1) hb (by omega) (.bool false) (.slice A4 n4 c4)
  replace x_b := x_b.put false A4 n4 c4
  clear q_a q_b q_q q_r
  generalize (v4.setCell ⟨w.heap.size + 1, 0, none⟩ (.bool false)).setCell ⟨w.heap.size + 1, 1, none⟩ (.slice A4 n4 c4) = v5 at *
  have q_a := x_a.al
  have q_b := x_b.al
  have q_q := x_q.al
  have q_r := x_r.al
  skip
  with_reducible refine (RDivMod_any _ _ _ _ _ _ _ _ _ za.rd zb.rd (by have := za.lek; omega) (by have := zb.lek; omega) (by rw [vl_dg Wd2]; exact hM0)).mono ?_
  rintro e v6 ⟨A5, n5, c5, A6, n6, c6, rfl, g5, g6, hb1⟩
  obtain ⟨x_a, x_b, x_q, x_r, za, zb⟩ := mv6 hb1 x_a x_b x_q x_r za zb
  replace hb := bthen hb hb1
  clear hb1
  replace q_a := x_a.al
  replace q_b := x_b.al
  replace q_q := x_q.al
  replace q_r := x_r.al
  rw [vl_dg Wd2, vl_dg Wd2, HNQ.out] at g5
  rw [vl_dg Wd2, vl_dg Wd2, HNR.out] at g6
  have zn5 := g5.small hsQ
  have zn6 := g6.small hsR
  go_wp2_with fail
  with_reducible refine (RMake_any (b := true) g5 NQ k (vl_dg Wd2 _) hsQ (by omega)).mono ?_
  rintro e v7 ⟨A7, n7, c7, rfl, zq, hb1⟩
  obtain ⟨x_a, x_b, x_q, x_r, za, zb⟩ := mv6 hb1 x_a x_b x_q x_r za zb
  replace g5 := g5.go hb1
  replace g6 := g6.go hb1
  replace hb := bthen hb hb1
  clear hb1
  replace q_a := x_a.al
  replace q_b := x_b.al
  replace q_q := x_q.al
  replace q_r := x_r.al
  clear g5
  have y_a := (x_a.alloc (.cells #[.bool (ngB (zi true NQ)), .slice A7 n7 c7] 26)); have yq_a0 := y_a.c0; have yq_a1 := y_a.c1
  have y_b := (x_b.alloc (.cells #[.bool (ngB (zi true NQ)), .slice A7 n7 c7] 26)); have yq_b0 := y_b.c0; have yq_b1 := y_b.c1
  have y_q := (x_q.alloc (.cells #[.bool (ngB (zi true NQ)), .slice A7 n7 c7] 26)); have yq_q0 := y_q.c0; have yq_q1 := y_q.c1
  have y_r := (x_r.alloc (.cells #[.bool (ngB (zi true NQ)), .slice A7 n7 c7] 26)); have yq_r0 := y_r.c0; have yq_r1 := y_r.c1
  go_wp2_with fail
  clear y_a yq_a0 yq_a1 y_b yq_b0 yq_b1 y_q yq_q0 yq_q1 y_r yq_r0 yq_r1
  have hb1 := below_alloc v7 (.cells #[.bool (ngB (zi true NQ)), .slice A7 n7 c7] 26)
  have l_a_p := x_a.lt
  have l_b_p := x_b.lt
  have l_q_p := x_q.lt
  have l_r_p := x_r.lt
  have x_p := Bx.new v7 (ngB (zi true NQ)) A7 n7 c7
  have e_p : w.heap.size ≤ v7.heap.size := hb.size
  obtain ⟨x_a, x_b, x_q, x_r, za, zb⟩ := mv6 hb1 x_a x_b x_q x_r za zb
  replace g6 := g6.go hb1
  replace zq := zq.keep hb1
  replace hb := bthen hb hb1
  clear hb1
  replace q_a := x_a.al
  replace q_b := x_b.al
  replace q_q := x_q.al
  replace q_r := x_r.al
  clear q_a q_b q_q q_r
  generalize v7.alloc (.cells #[.bool (ngB (zi true NQ)), .slice A7 n7 c7] 26) = v8 at *
  have q_a := x_a.al
  have q_b := x_b.al
  have q_q := x_q.al
  have q_r := x_r.al
  have q_p := x_p.al
  skip
  with_reducible refine (RMake_any (b := true) g6 NR k (vl_dg Wd2 _) hsR (by omega)).mono ?_
  rintro e v9 ⟨A8, n8, c8, rfl, zr, hb1⟩
  obtain ⟨x_a, x_b, x_q, x_r, x_p, za, zb⟩ := mv7 hb1 x_a x_b x_q x_r x_p za zb
  replace g6 := g6.go hb1
  replace zq := zq.keep hb1
  replace hb := bthen hb hb1
  clear hb1
  replace q_a := x_a.al
  replace q_b := x_b.al
  replace q_q := x_q.al
  replace q_r := x_r.al
  replace q_p := x_p.al
  rw [HNG.out]
  clear g6
  have zs : Zr v9 true A8 n8 c8 (zi true NR) k := by have := zr.zr; rwa [HNG.out] at this
  have zbz : Zr v9 false A4 n4 c4 Y j2 := by have := zb.zr; rwa [HNY.out] at this
  clear zr zb za
  have y_a := (x_a.alloc (.cells #[.bool true, .slice A8 n8 c8] 26)); have yq_a0 := y_a.c0; have yq_a1 := y_a.c1
  have y_b := (x_b.alloc (.cells #[.bool true, .slice A8 n8 c8] 26)); have yq_b0 := y_b.c0; have yq_b1 := y_b.c1
  have y_q := (x_q.alloc (.cells #[.bool true, .slice A8 n8 c8] 26)); have yq_q0 := y_q.c0; have yq_q1 := y_q.c1
  have y_r := (x_r.alloc (.cells #[.bool true, .slice A8 n8 c8] 26)); have yq_r0 := y_r.c0; have yq_r1 := y_r.c1
  have y_p := (x_p.alloc (.cells #[.bool true, .slice A8 n8 c8] 26)); have yq_p0 := y_p.c0; have yq_p1 := y_p.c1
  go_wp2_with fail
  clear y_a yq_a0 yq_a1 y_b yq_b0 yq_b1 y_q yq_q0 yq_q1 y_r yq_r0 yq_r1 y_p yq_p0 yq_p1
  have hb1 := below_alloc v9 (.cells #[.bool true, .slice A8 n8 c8] 26)
  have l_a_s := x_a.lt
  have l_b_s := x_b.lt
  have l_q_s := x_q.lt
  have l_r_s := x_r.lt
  have l_p_s := x_p.lt
  have x_s := Bx.new v9 true A8 n8 c8
  have e_s : w.heap.size ≤ v9.heap.size := hb.size
  obtain ⟨x_a, x_b, x_q, x_r, x_p, zq, zs, zbz⟩ := mv8 hb1 x_a x_b x_q x_r x_p zq zs zbz
  replace hb := bthen hb hb1
  clear hb1
  replace q_a := x_a.al
  replace q_b := x_b.al
  replace q_q := x_q.al
  replace q_r := x_r.al
  replace q_p := x_p.al
  clear q_a q_b q_q q_r q_p
  generalize v9.alloc (.cells #[.bool true, .slice A8 n8 c8] 26) = v10 at *
  have q_a := x_a.al
  have q_b := x_b.al
  have q_q := x_q.al
  have q_r := x_r.al
  have q_p := x_p.al
  have q_s := x_s.al
  skip
  go_region_with ((first | (go_at_call 104; (with_reducible refine (RAbsZ_any zbz.drw j2 (Nat.le_refl _) (by omega)).mono ?_); rintro e v11 ⟨A9, n9, c9, rfl, zy, hb1⟩; replace hb1 := undrew hb1; obtain ⟨x_a, x_b, x_q, x_r, x_p, x_s, zq, zs, zbz⟩ := mv9 hb1 x_a x_b x_q x_r x_p x_s zq zs zbz; replace hb := bthen hb hb1; clear hb1; replace q_a := x_a.al; replace q_b := x_b.al; replace q_q := x_q.al; replace q_r := x_r.al; replace q_p := x_p.al; replace q_s := x_s.al) | (go_at_call 75; (with_reducible refine (RAddZ_any zs zy.zr (k + 1) (Nat.le_refl _) (by omega) (by omega)).mono ?_); rintro e v12 ⟨A10, n10, c10, rfl, zt, hb1⟩; obtain ⟨x_a, x_b, x_q, x_r, x_p, x_s, zq, zs, zbz⟩ := mv9 hb1 x_a x_b x_q x_r x_p x_s zq zs zbz; replace zy := zy.keep hb1; replace hb := bthen hb hb1; clear hb1; replace q_a := x_a.al; replace q_b := x_b.al; replace q_q := x_q.al; replace q_r := x_r.al; replace q_p := x_p.al; replace q_s := x_s.al)))
  all_goals
    go_wp2_with fail
    replace x_a := x_a.aside (b' := (ngB (zi true NR + (Y.natAbs : Int)))) (A' := A10) (n' := n10) (c' := c10) (g := v9.heap.size) (by omega)
    replace x_b := x_b.aside (b' := (ngB (zi true NR + (Y.natAbs : Int)))) (A' := A10) (n' := n10) (c' := c10) (g := v9.heap.size) (by omega)
    replace x_q := x_q.aside (b' := (ngB (zi true NR + (Y.natAbs : Int)))) (A' := A10) (n' := n10) (c' := c10) (g := v9.heap.size) (by omega)
    replace x_r := x_r.aside (b' := (ngB (zi true NR + (Y.natAbs : Int)))) (A' := A10) (n' := n10) (c' := c10) (g := v9.heap.size) (by omega)
    replace x_p := x_p.aside (b' := (ngB (zi true NR + (Y.natAbs : Int)))) (A' := A10) (n' := n10) (c' := c10) (g := v9.heap.size) (by omega)
    replace zq := zq.put (b' := (ngB (zi true NR + (Y.natAbs : Int)))) (A' := A10) (n' := n10) (c' := c10) x_s
    replace zs := zs.put (b' := (ngB (zi true NR + (Y.natAbs : Int)))) (A' := A10) (n' := n10) (c' := c10) x_s
    replace zbz := zbz.put (b' := (ngB (zi true NR + (Y.natAbs : Int)))) (A' := A10) (n' := n10) (c' := c10) x_s
    replace zy := zy.put (b' := (ngB (zi true NR + (Y.natAbs : Int)))) (A' := A10) (n' := n10) (c' := c10) x_s
    replace zt := zt.put (b' := (ngB (zi true NR + (Y.natAbs : Int)))) (A' := A10) (n' := n10) (c' := c10) x_s
    replace hb := put_below (g := v9.heap.size) hb (by omega) (.bool (ngB (zi true NR + (Y.natAbs : Int)))) (.slice A10 n10 c10)
    replace x_s := x_s.put (ngB (zi true NR + (Y.natAbs : Int))) A10 n10 c10
    clear q_a q_b q_q q_r q_p q_s
    generalize (v12.setCell ⟨v9.heap.size, 0, none⟩ (.bool (ngB (zi true NR + (Y.natAbs : Int))))).setCell ⟨v9.heap.size, 1, none⟩ (.slice A10 n10 c10) = v13 at *
    have q_a := x_a.al
    have q_b := x_b.al
    have q_q := x_q.al
    have q_r := x_r.al
    have q_p := x_p.al
    have q_s := x_s.al
    go_region_with ((first | (go_at_call 79; (with_reducible refine (ROf_any 1 (by omega) (by omega)).mono ?_); rintro e v14 ⟨A11, n11, c11, rfl, zo, hb1⟩; replace hb1 := undrew hb1; obtain ⟨x_a, x_b, x_q, x_r, x_p, x_s, zq, zs, zbz⟩ := mv9 hb1 x_a x_b x_q x_r x_p x_s zq zs zbz; obtain ⟨zy, zt⟩ := mv2 hb1 zy zt; replace hb := bthen hb hb1; clear hb1; replace q_a := x_a.al; replace q_b := x_b.al; replace q_q := x_q.al; replace q_r := x_r.al; replace q_p := x_p.al; replace q_s := x_s.al) | (go_at_call 78; (with_reducible refine (RSubZ_any zq.zr zo.zr (k + 1) (Nat.le_refl _) (by omega) (by omega)).mono ?_); rintro e v15 ⟨A12, n12, c12, rfl, zp, hb1⟩; obtain ⟨x_a, x_b, x_q, x_r, x_p, x_s, zq, zs, zbz⟩ := mv9 hb1 x_a x_b x_q x_r x_p x_s zq zs zbz; obtain ⟨zy, zt, zo⟩ := mv3 hb1 zy zt zo; replace hb := bthen hb hb1; clear hb1; replace q_a := x_a.al; replace q_b := x_b.al; replace q_q := x_q.al; replace q_r := x_r.al; replace q_p := x_p.al; replace q_s := x_s.al)))
    all_goals
      go_wp2_with fail
      replace x_a := x_a.aside (b' := (ngB (zi true NQ - 1))) (A' := A12) (n' := n12) (c' := c12) (g := v7.heap.size) (by omega)
      replace x_b := x_b.aside (b' := (ngB (zi true NQ - 1))) (A' := A12) (n' := n12) (c' := c12) (g := v7.heap.size) (by omega)
      replace x_q := x_q.aside (b' := (ngB (zi true NQ - 1))) (A' := A12) (n' := n12) (c' := c12) (g := v7.heap.size) (by omega)
      replace x_r := x_r.aside (b' := (ngB (zi true NQ - 1))) (A' := A12) (n' := n12) (c' := c12) (g := v7.heap.size) (by omega)
      replace x_s := x_s.aside (b' := (ngB (zi true NQ - 1))) (A' := A12) (n' := n12) (c' := c12) (g := v7.heap.size) (by omega)
      replace zq := zq.put (b' := (ngB (zi true NQ - 1))) (A' := A12) (n' := n12) (c' := c12) x_p
      replace zs := zs.put (b' := (ngB (zi true NQ - 1))) (A' := A12) (n' := n12) (c' := c12) x_p
      replace zbz := zbz.put (b' := (ngB (zi true NQ - 1))) (A' := A12) (n' := n12) (c' := c12) x_p
      replace zy := zy.put (b' := (ngB (zi true NQ - 1))) (A' := A12) (n' := n12) (c' := c12) x_p
      replace zt := zt.put (b' := (ngB (zi true NQ - 1))) (A' := A12) (n' := n12) (c' := c12) x_p
      replace zo := zo.put (b' := (ngB (zi true NQ - 1))) (A' := A12) (n' := n12) (c' := c12) x_p
      replace zp := zp.put (b' := (ngB (zi true NQ - 1))) (A' := A12) (n' := n12) (c' := c12) x_p
      replace hb := put_below (g := v7.heap.size) hb (by omega) (.bool (ngB (zi true NQ - 1))) (.slice A12 n12 c12)
      replace x_p := x_p.put (ngB (zi true NQ - 1)) A12 n12 c12
      clear q_a q_b q_q q_r q_p q_s
      generalize (v15.setCell ⟨v7.heap.size, 0, none⟩ (.bool (ngB (zi true NQ - 1)))).setCell ⟨v7.heap.size, 1, none⟩ (.slice A12 n12 c12) = v16 at *
      have q_a := x_a.al
      have q_b := x_b.al
      have q_q := x_q.al
      have q_r := x_r.al
      have q_p := x_p.al
      have q_s := x_s.al
      go_region_held3 (fun w' => w'.cell? ⟨v7.heap.size, 0, none⟩ = some (.bool (ngB (zi true NQ - 1))) ∧ w'.cell? ⟨v7.heap.size, 1, none⟩ = some (.slice A12 n12 c12) ∧ w'.cell? ⟨v9.heap.size, 0, none⟩ = some (.bool (ngB (zi true NR + (Y.natAbs : Int)))) ∧ w'.cell? ⟨v9.heap.size, 1, none⟩ = some (.slice A10 n10 c10))
        (first | (with_reducible exact ⟨x_p.drew.c0, x_p.drew.c1, x_s.drew.c0, x_s.drew.c1⟩) | (with_reducible exact ⟨(x_p.aside (by omega)).drew.c0, (x_p.aside (by omega)).drew.c1, (x_s.aside (by omega)).drew.c0, (x_s.aside (by omega)).drew.c1⟩) | (with_reducible exact ⟨((x_p.aside (by omega)).aside (by omega)).drew.c0, ((x_p.aside (by omega)).aside (by omega)).drew.c1, ((x_s.aside (by omega)).aside (by omega)).drew.c0, ((x_s.aside (by omega)).aside (by omega)).drew.c1⟩) | go_keep)
        (first | fail)
      skip
      replace x_a := x_a.aside (b' := (ngB (zi true NQ - 1))) (A' := A12) (n' := n12) (c' := c12) (g := w.heap.size + 1 + 1) (by omega)
      replace x_b := x_b.aside (b' := (ngB (zi true NQ - 1))) (A' := A12) (n' := n12) (c' := c12) (g := w.heap.size + 1 + 1) (by omega)
      replace x_r := x_r.aside (b' := (ngB (zi true NQ - 1))) (A' := A12) (n' := n12) (c' := c12) (g := w.heap.size + 1 + 1) (by omega)
      replace x_p := x_p.aside (b' := (ngB (zi true NQ - 1))) (A' := A12) (n' := n12) (c' := c12) (g := w.heap.size + 1 + 1) (by omega)
      replace x_s := x_s.aside (b' := (ngB (zi true NQ - 1))) (A' := A12) (n' := n12) (c' := c12) (g := w.heap.size + 1 + 1) (by omega)
      replace zq := zq.put (b' := (ngB (zi true NQ - 1))) (A' := A12) (n' := n12) (c' := c12) x_q
      replace zs := zs.put (b' := (ngB (zi true NQ - 1))) (A' := A12) (n' := n12) (c' := c12) x_q
      replace zbz := zbz.put (b' := (ngB (zi true NQ - 1))) (A' := A12) (n' := n12) (c' := c12) x_q
      replace zy := zy.put (b' := (ngB (zi true NQ - 1))) (A' := A12) (n' := n12) (c' := c12) x_q
      replace zt := zt.put (b' := (ngB (zi true NQ - 1))) (A' := A12) (n' := n12) (c' := c12) x_q
      replace zo := zo.put (b' := (ngB (zi true NQ - 1))) (A' := A12) (n' := n12) (c' := c12) x_q
      replace zp := zp.put (b' := (ngB (zi true NQ - 1))) (A' := A12) (n' := n12) (c' := c12) x_q
      replace hb := put_below (g := w.heap.size + 1 + 1) hb (by omega) (.bool (ngB (zi true NQ - 1))) (.slice A12 n12 c12)
      replace x_q := x_q.put (ngB (zi true NQ - 1)) A12 n12 c12
      clear q_a q_b q_q q_r q_p q_s
      generalize (v16.setCell ⟨w.heap.size + 1 + 1, 0, none⟩ (.bool (ngB (zi true NQ - 1)))).setCell ⟨w.heap.size + 1 + 1, 1, none⟩ (.slice A12 n12 c12) = v17 at *
      have q_a := x_a.al
      have q_b := x_b.al
      have q_q := x_q.al
      have q_r := x_r.al
      have q_p := x_p.al
      have q_s := x_s.al
      replace x_a := x_a.aside (b' := (ngB (zi true NR + (Y.natAbs : Int)))) (A' := A10) (n' := n10) (c' := c10) (g := w.heap.size + 1 + 1 + 1) (by omega)
      replace x_b := x_b.aside (b' := (ngB (zi true NR + (Y.natAbs : Int)))) (A' := A10) (n' := n10) (c' := c10) (g := w.heap.size + 1 + 1 + 1) (by omega)
      replace x_q := x_q.aside (b' := (ngB (zi true NR + (Y.natAbs : Int)))) (A' := A10) (n' := n10) (c' := c10) (g := w.heap.size + 1 + 1 + 1) (by omega)
      replace x_p := x_p.aside (b' := (ngB (zi true NR + (Y.natAbs : Int)))) (A' := A10) (n' := n10) (c' := c10) (g := w.heap.size + 1 + 1 + 1) (by omega)
      replace x_s := x_s.aside (b' := (ngB (zi true NR + (Y.natAbs : Int)))) (A' := A10) (n' := n10) (c' := c10) (g := w.heap.size + 1 + 1 + 1) (by omega)
      replace zq := zq.put (b' := (ngB (zi true NR + (Y.natAbs : Int)))) (A' := A10) (n' := n10) (c' := c10) x_r
      replace zs := zs.put (b' := (ngB (zi true NR + (Y.natAbs : Int)))) (A' := A10) (n' := n10) (c' := c10) x_r
      replace zbz := zbz.put (b' := (ngB (zi true NR + (Y.natAbs : Int)))) (A' := A10) (n' := n10) (c' := c10) x_r
      replace zy := zy.put (b' := (ngB (zi true NR + (Y.natAbs : Int)))) (A' := A10) (n' := n10) (c' := c10) x_r
      replace zt := zt.put (b' := (ngB (zi true NR + (Y.natAbs : Int)))) (A' := A10) (n' := n10) (c' := c10) x_r
      replace zo := zo.put (b' := (ngB (zi true NR + (Y.natAbs : Int)))) (A' := A10) (n' := n10) (c' := c10) x_r
      replace zp := zp.put (b' := (ngB (zi true NR + (Y.natAbs : Int)))) (A' := A10) (n' := n10) (c' := c10) x_r
      replace hb := put_below (g := w.heap.size + 1 + 1 + 1) hb (by omega) (.bool (ngB (zi true NR + (Y.natAbs : Int)))) (.slice A10 n10 c10)
      replace x_r := x_r.put (ngB (zi true NR + (Y.natAbs : Int))) A10 n10 c10
      clear q_a q_b q_q q_r q_p q_s
      generalize (v17.setCell ⟨w.heap.size + 1 + 1 + 1, 0, none⟩ (.bool (ngB (zi true NR + (Y.natAbs : Int))))).setCell ⟨w.heap.size + 1 + 1 + 1, 1, none⟩ (.slice A10 n10 c10) = v18 at *
      have q_a := x_a.al
      have q_b := x_b.al
      have q_q := x_q.al
      have q_r := x_r.al
      have q_p := x_p.al
      have q_s := x_s.al
      replace x_a := x_a.drew
      replace x_b := x_b.drew
      replace x_q := x_q.drew
      replace x_r := x_r.drew
      replace x_p := x_p.drew
      replace x_s := x_s.drew
      replace zq := zq.drw
      replace zs := zs.drw
      replace zbz := zbz.drw
      replace zy := zy.drw
      replace zt := zt.drw
      replace zo := zo.drw
      replace zp := zp.drw
      replace hb := below_drew hb
      clear q_a q_b q_q q_r q_p q_s
      generalize v18.drew = v19 at *
      have q_a := x_a.al
      have q_b := x_b.al
      have q_q := x_q.al
      have q_r := x_r.al
      have q_p := x_p.al
      have q_s := x_s.al
      go_wp2
      refine bodyPost_ret (v := .tuple #[.agg #[.bool (ngB (zi true NQ - 1)), .slice A12 n12 c12], .agg #[.bool (ngB (zi true NR + (Y.natAbs : Int))), .slice A10 n10 c10], .bool true]) (by simp [results, Tryz.results107, go_sem, q_q, q_r]) rfl ?_
      exact ⟨_, _, _, _, _, _, rfl, zp, zt, hb⟩
end
end Go.Proofs.YtlaphcimlingaaaGreat
namespace Go.Proofs.YtlaphcimlingaaaGreat
section
set_option maxRecDepth 100000
open Go.RowKit
set_option linter.unusedVariables false

set_option maxRecDepth 100000 in
set_option maxHeartbeats 32000000 in
theorem RDivModZ_moret {b b2 : Bool} {A A2 : Option Addr} {n c n2 c2 : Nat} {X Y : Int} {j j2 : Nat} {w : World} (h : Zr w b A n c X j) (h2 : Zr w b2 A2 n2 c2 Y j2) (hY : Y ≠ 0) (k : Nat) (hk : j + 1 ≤ k) (hk2 : j2 + 1 ≤ k) (hj : k ≤ 10000) (hng : ngB (zi (ngB X) (X.natAbs % Y.natAbs)) = true) (hny : ngB Y = true) :
    Calls Tryz.prog 107 #[.agg #[.bool b, .slice A n c], .agg #[.bool b2, .slice A2 n2 c2]] w (DqPost w (X / Y) (X % Y) (k + 1)) := by
  have hs : Sm X.natAbs (k - 1) := (h.si).mono (by omega)
  have hs2 : Sm Y.natAbs (k - 1) := (h2.si).mono (by omega)
  have hM0 : 0 < Y.natAbs := by omega
  have hsQ : Sm (X.natAbs / Y.natAbs) k := (hs.div _).mono (by omega)
  have hsR : Sm (X.natAbs % Y.natAbs) k := (hs.mod).mono (by omega)
  obtain ⟨hx, e2, eT, eF⟩ := rdm_more hY hng
  rw [e2, eT hny]
  clear e2 eT eF hs hs2
  rw [hx, hny, show (!(true == true)) = false from rfl]
  rw [hx] at hng
  generalize hQ9 : X.natAbs / Y.natAbs = NQ at *
  generalize hR9 : X.natAbs % Y.natAbs = NR at *
  have HNQ := Lib.hid hQ9; have HNR := Lib.hid hR9; have HNG := Lib.hid hng; have HNX := Lib.hid hx; have HNY := Lib.hid hny; clear hQ9 hR9 hng hx hny
  go_enter Tryz.func107, Tryz.ntmps107
  go_wp2_with fail
  obtain ⟨hb, x_a, x_b, x_q, x_r⟩ := box4 w b A n c b2 A2 n2 c2 false none 0 0 false none 0 0
  generalize (((w.alloc (.cells #[.bool b, .slice A n c] 26)).alloc (.cells #[.bool b2, .slice A2 n2 c2] 26)).alloc (.cells #[.bool false, .slice none 0 0] 26)).alloc (.cells #[.bool false, .slice none 0 0] 26) = v1 at *
  obtain ⟨h, h2⟩ := mv2 hb h h2
  have q_a := x_a.al
  have q_b := x_b.al
  have q_q := x_q.al
  have q_r := x_r.al
  go_wp2_with fail
  with_reducible refine (RNormZ_any h j (Nat.le_refl _) (by omega)).mono ?_
  rintro e v2 ⟨A3, n3, c3, rfl, za, hb1⟩
  obtain ⟨x_a, x_b, x_q, x_r, h, h2⟩ := mv6 hb1 x_a x_b x_q x_r h h2
  replace hb := bthen hb hb1
  clear hb1
  replace q_a := x_a.al
  replace q_b := x_b.al
  replace q_q := x_q.al
  replace q_r := x_r.al
  rw [HNX.out]
  clear h
  go_wp2_with fail
  replace x_b := x_b.aside (b' := true) (A' := A3) (n' := n3) (c' := c3) (g := w.heap.size) (by omega)
  replace x_q := x_q.aside (b' := true) (A' := A3) (n' := n3) (c' := c3) (g := w.heap.size) (by omega)
  replace x_r := x_r.aside (b' := true) (A' := A3) (n' := n3) (c' := c3) (g := w.heap.size) (by omega)
  replace h2 := h2.put (b' := true) (A' := A3) (n' := n3) (c' := c3) x_a
  replace za := za.put (b' := true) (A' := A3) (n' := n3) (c' := c3) x_a
  replace hb := put_below (g := w.heap.size) hb (by omega) (.bool true) (.slice A3 n3 c3)
  replace x_a := x_a.put true A3 n3 c3
  clear q_a q_b q_q q_r
  generalize (v2.setCell ⟨w.heap.size, 0, none⟩ (.bool true)).setCell ⟨w.heap.size, 1, none⟩ (.slice A3 n3 c3) = v3 at *
  have q_a := x_a.al
  have q_b := x_b.al
  have q_q := x_q.al
  have q_r := x_r.al
  with_reducible refine (RNormZ_any h2 j2 (Nat.le_refl _) (by omega)).mono ?_
  rintro e v4 ⟨A4, n4, c4, rfl, zb, hb1⟩
  obtain ⟨x_a, x_b, x_q, x_r, h2, za⟩ := mv6 hb1 x_a x_b x_q x_r h2 za
  replace hb := bthen hb hb1
  clear hb1
  replace q_a := x_a.al
  replace q_b := x_b.al
  replace q_q := x_q.al
  replace q_r := x_r.al
  rw [HNY.out]
  clear h2
  go_wp2_with fail
  replace x_a := x_a.aside (b' := true) (A' := A4) (n' := n4) (c' := c4) (g := w.heap.size + 1) (by omega)
  replace x_q := x_q.aside (b' := true) (A' := A4) (n' := n4) (c' := c4) (g := w.heap.size + 1) (by omega)
  replace x_r := x_r.aside (b' := true) (A' := A4) (n' := n4) (c' := c4) (g := w.heap.size + 1) (by omega)
  replace za := za.put (b' := true) (A' := A4) (n' := n4) (c' := c4) x_b
  replace zb := zb.put (b' := true) (A' := A4) (n' := n4) (c' := c4) x_b
  replace hb := put_below (g := w.heap.size + 1) hb (by omega) (.bool true) (.slice A4 n4 c4)
  replace x_b := x_b.put true A4 n4 c4
  clear q_a q_b q_q q_r
  generalize (v4.setCell ⟨w.heap.size + 1, 0, none⟩ (.bool true)).setCell ⟨w.heap.size + 1, 1, none⟩ (.slice A4 n4 c4) = v5 at *
  have q_a := x_a.al
  have q_b := x_b.al
  have q_q := x_q.al
  have q_r := x_r.al
  skip
  with_reducible refine (RDivMod_any _ _ _ _ _ _ _ _ _ za.rd zb.rd (by have := za.lek; omega) (by have := zb.lek; omega) (by rw [vl_dg Wd2]; exact hM0)).mono ?_
  rintro e v6 ⟨A5, n5, c5, A6, n6, c6, rfl, g5, g6, hb1⟩
  obtain ⟨x_a, x_b, x_q, x_r, za, zb⟩ := mv6 hb1 x_a x_b x_q x_r za zb
  replace hb := bthen hb hb1
  clear hb1
  replace q_a := x_a.al
  replace q_b := x_b.al
  replace q_q := x_q.al
  replace q_r := x_r.al
  rw [vl_dg Wd2, vl_dg Wd2, HNQ.out] at g5
  rw [vl_dg Wd2, vl_dg Wd2, HNR.out] at g6
  have zn5 := g5.small hsQ
  have zn6 := g6.small hsR
  go_wp2_with fail
  with_reducible refine (RMake_any (b := false) g5 NQ k (vl_dg Wd2 _) hsQ (by omega)).mono ?_
  rintro e v7 ⟨A7, n7, c7, rfl, zq, hb1⟩
  obtain ⟨x_a, x_b, x_q, x_r, za, zb⟩ := mv6 hb1 x_a x_b x_q x_r za zb
  replace g5 := g5.go hb1
  replace g6 := g6.go hb1
  replace hb := bthen hb hb1
  clear hb1
  replace q_a := x_a.al
  replace q_b := x_b.al
  replace q_q := x_q.al
  replace q_r := x_r.al
  clear g5
  have y_a := (x_a.alloc (.cells #[.bool (ngB (zi false NQ)), .slice A7 n7 c7] 26)); have yq_a0 := y_a.c0; have yq_a1 := y_a.c1
  have y_b := (x_b.alloc (.cells #[.bool (ngB (zi false NQ)), .slice A7 n7 c7] 26)); have yq_b0 := y_b.c0; have yq_b1 := y_b.c1
  have y_q := (x_q.alloc (.cells #[.bool (ngB (zi false NQ)), .slice A7 n7 c7] 26)); have yq_q0 := y_q.c0; have yq_q1 := y_q.c1
  have y_r := (x_r.alloc (.cells #[.bool (ngB (zi false NQ)), .slice A7 n7 c7] 26)); have yq_r0 := y_r.c0; have yq_r1 := y_r.c1
  go_wp2_with fail
  clear y_a yq_a0 yq_a1 y_b yq_b0 yq_b1 y_q yq_q0 yq_q1 y_r yq_r0 yq_r1
  have hb1 := below_alloc v7 (.cells #[.bool (ngB (zi false NQ)), .slice A7 n7 c7] 26)
  have l_a_p := x_a.lt
  have l_b_p := x_b.lt
  have l_q_p := x_q.lt
  have l_r_p := x_r.lt
  have x_p := Bx.new v7 (ngB (zi false NQ)) A7 n7 c7
  have e_p : w.heap.size ≤ v7.heap.size := hb.size
  obtain ⟨x_a, x_b, x_q, x_r, za, zb⟩ := mv6 hb1 x_a x_b x_q x_r za zb
  replace g6 := g6.go hb1
  replace zq := zq.keep hb1
  replace hb := bthen hb hb1
  clear hb1
  replace q_a := x_a.al
  replace q_b := x_b.al
  replace q_q := x_q.al
  replace q_r := x_r.al
  clear q_a q_b q_q q_r
  generalize v7.alloc (.cells #[.bool (ngB (zi false NQ)), .slice A7 n7 c7] 26) = v8 at *
  have q_a := x_a.al
  have q_b := x_b.al
  have q_q := x_q.al
  have q_r := x_r.al
  have q_p := x_p.al
  skip
  with_reducible refine (RMake_any (b := true) g6 NR k (vl_dg Wd2 _) hsR (by omega)).mono ?_
  rintro e v9 ⟨A8, n8, c8, rfl, zr, hb1⟩
  obtain ⟨x_a, x_b, x_q, x_r, x_p, za, zb⟩ := mv7 hb1 x_a x_b x_q x_r x_p za zb
  replace g6 := g6.go hb1
  replace zq := zq.keep hb1
  replace hb := bthen hb hb1
  clear hb1
  replace q_a := x_a.al
  replace q_b := x_b.al
  replace q_q := x_q.al
  replace q_r := x_r.al
  replace q_p := x_p.al
  rw [HNG.out]
  clear g6
  have zs : Zr v9 true A8 n8 c8 (zi true NR) k := by have := zr.zr; rwa [HNG.out] at this
  have zbz : Zr v9 true A4 n4 c4 Y j2 := by have := zb.zr; rwa [HNY.out] at this
  clear zr zb za
  have y_a := (x_a.alloc (.cells #[.bool true, .slice A8 n8 c8] 26)); have yq_a0 := y_a.c0; have yq_a1 := y_a.c1
  have y_b := (x_b.alloc (.cells #[.bool true, .slice A8 n8 c8] 26)); have yq_b0 := y_b.c0; have yq_b1 := y_b.c1
  have y_q := (x_q.alloc (.cells #[.bool true, .slice A8 n8 c8] 26)); have yq_q0 := y_q.c0; have yq_q1 := y_q.c1
  have y_r := (x_r.alloc (.cells #[.bool true, .slice A8 n8 c8] 26)); have yq_r0 := y_r.c0; have yq_r1 := y_r.c1
  have y_p := (x_p.alloc (.cells #[.bool true, .slice A8 n8 c8] 26)); have yq_p0 := y_p.c0; have yq_p1 := y_p.c1
  go_wp2_with fail
  clear y_a yq_a0 yq_a1 y_b yq_b0 yq_b1 y_q yq_q0 yq_q1 y_r yq_r0 yq_r1 y_p yq_p0 yq_p1
  have hb1 := below_alloc v9 (.cells #[.bool true, .slice A8 n8 c8] 26)
  have l_a_s := x_a.lt
  have l_b_s := x_b.lt
  have l_q_s := x_q.lt
  have l_r_s := x_r.lt
  have l_p_s := x_p.lt
  have x_s := Bx.new v9 true A8 n8 c8
  have e_s : w.heap.size ≤ v9.heap.size := hb.size
  obtain ⟨x_a, x_b, x_q, x_r, x_p, zq, zs, zbz⟩ := mv8 hb1 x_a x_b x_q x_r x_p zq zs zbz
  replace hb := bthen hb hb1
  clear hb1
  replace q_a := x_a.al
  replace q_b := x_b.al
  replace q_q := x_q.al
  replace q_r := x_r.al
  replace q_p := x_p.al
  clear q_a q_b q_q q_r q_p
  generalize v9.alloc (.cells #[.bool true, .slice A8 n8 c8] 26) = v10 at *
  have q_a := x_a.al
  have q_b := x_b.al
  have q_q := x_q.al
  have q_r := x_r.al
  have q_p := x_p.al
  have q_s := x_s.al
  skip
  go_region_with ((first | (go_at_call 104; (with_reducible refine (RAbsZ_any zbz.drw j2 (Nat.le_refl _) (by omega)).mono ?_); rintro e v11 ⟨A9, n9, c9, rfl, zy, hb1⟩; replace hb1 := undrew hb1; obtain ⟨x_a, x_b, x_q, x_r, x_p, x_s, zq, zs, zbz⟩ := mv9 hb1 x_a x_b x_q x_r x_p x_s zq zs zbz; replace hb := bthen hb hb1; clear hb1; replace q_a := x_a.al; replace q_b := x_b.al; replace q_q := x_q.al; replace q_r := x_r.al; replace q_p := x_p.al; replace q_s := x_s.al) | (go_at_call 75; (with_reducible refine (RAddZ_any zs zy.zr (k + 1) (Nat.le_refl _) (by omega) (by omega)).mono ?_); rintro e v12 ⟨A10, n10, c10, rfl, zt, hb1⟩; obtain ⟨x_a, x_b, x_q, x_r, x_p, x_s, zq, zs, zbz⟩ := mv9 hb1 x_a x_b x_q x_r x_p x_s zq zs zbz; replace zy := zy.keep hb1; replace hb := bthen hb hb1; clear hb1; replace q_a := x_a.al; replace q_b := x_b.al; replace q_q := x_q.al; replace q_r := x_r.al; replace q_p := x_p.al; replace q_s := x_s.al)))
  all_goals
    go_wp2_with fail
    replace x_a := x_a.aside (b' := (ngB (zi true NR + (Y.natAbs : Int)))) (A' := A10) (n' := n10) (c' := c10) (g := v9.heap.size) (by omega)
    replace x_b := x_b.aside (b' := (ngB (zi true NR + (Y.natAbs : Int)))) (A' := A10) (n' := n10) (c' := c10) (g := v9.heap.size) (by omega)
    replace x_q := x_q.aside (b' := (ngB (zi true NR + (Y.natAbs : Int)))) (A' := A10) (n' := n10) (c' := c10) (g := v9.heap.size) (by omega)
    replace x_r := x_r.aside (b' := (ngB (zi true NR + (Y.natAbs : Int)))) (A' := A10) (n' := n10) (c' := c10) (g := v9.heap.size) (by omega)
    replace x_p := x_p.aside (b' := (ngB (zi true NR + (Y.natAbs : Int)))) (A' := A10) (n' := n10) (c' := c10) (g := v9.heap.size) (by omega)
    replace zq := zq.put (b' := (ngB (zi true NR + (Y.natAbs : Int)))) (A' := A10) (n' := n10) (c' := c10) x_s
    replace zs := zs.put (b' := (ngB (zi true NR + (Y.natAbs : Int)))) (A' := A10) (n' := n10) (c' := c10) x_s
    replace zbz := zbz.put (b' := (ngB (zi true NR + (Y.natAbs : Int)))) (A' := A10) (n' := n10) (c' := c10) x_s
    replace zy := zy.put (b' := (ngB (zi true NR + (Y.natAbs : Int)))) (A' := A10) (n' := n10) (c' := c10) x_s
    replace zt := zt.put (b' := (ngB (zi true NR + (Y.natAbs : Int)))) (A' := A10) (n' := n10) (c' := c10) x_s
    replace hb := put_below (g := v9.heap.size) hb (by omega) (.bool (ngB (zi true NR + (Y.natAbs : Int)))) (.slice A10 n10 c10)
    replace x_s := x_s.put (ngB (zi true NR + (Y.natAbs : Int))) A10 n10 c10
    clear q_a q_b q_q q_r q_p q_s
    generalize (v12.setCell ⟨v9.heap.size, 0, none⟩ (.bool (ngB (zi true NR + (Y.natAbs : Int))))).setCell ⟨v9.heap.size, 1, none⟩ (.slice A10 n10 c10) = v13 at *
    have q_a := x_a.al
    have q_b := x_b.al
    have q_q := x_q.al
    have q_r := x_r.al
    have q_p := x_p.al
    have q_s := x_s.al
    go_region_with ((first | (go_at_call 79; (with_reducible refine (ROf_any 1 (by omega) (by omega)).mono ?_); rintro e v14 ⟨A11, n11, c11, rfl, zo, hb1⟩; replace hb1 := undrew hb1; obtain ⟨x_a, x_b, x_q, x_r, x_p, x_s, zq, zs, zbz⟩ := mv9 hb1 x_a x_b x_q x_r x_p x_s zq zs zbz; obtain ⟨zy, zt⟩ := mv2 hb1 zy zt; replace hb := bthen hb hb1; clear hb1; replace q_a := x_a.al; replace q_b := x_b.al; replace q_q := x_q.al; replace q_r := x_r.al; replace q_p := x_p.al; replace q_s := x_s.al) | (go_at_call 75; (with_reducible refine (RAddZ_any zq.zr zo.zr (k + 1) (Nat.le_refl _) (by omega) (by omega)).mono ?_); rintro e v15 ⟨A12, n12, c12, rfl, zp, hb1⟩; obtain ⟨x_a, x_b, x_q, x_r, x_p, x_s, zq, zs, zbz⟩ := mv9 hb1 x_a x_b x_q x_r x_p x_s zq zs zbz; obtain ⟨zy, zt, zo⟩ := mv3 hb1 zy zt zo; replace hb := bthen hb hb1; clear hb1; replace q_a := x_a.al; replace q_b := x_b.al; replace q_q := x_q.al; replace q_r := x_r.al; replace q_p := x_p.al; replace q_s := x_s.al)))
    all_goals
      go_wp2_with fail
      replace x_a := x_a.aside (b' := (ngB (zi false NQ + 1))) (A' := A12) (n' := n12) (c' := c12) (g := v7.heap.size) (by omega)
      replace x_b := x_b.aside (b' := (ngB (zi false NQ + 1))) (A' := A12) (n' := n12) (c' := c12) (g := v7.heap.size) (by omega)
      replace x_q := x_q.aside (b' := (ngB (zi false NQ + 1))) (A' := A12) (n' := n12) (c' := c12) (g := v7.heap.size) (by omega)
      replace x_r := x_r.aside (b' := (ngB (zi false NQ + 1))) (A' := A12) (n' := n12) (c' := c12) (g := v7.heap.size) (by omega)
      replace x_s := x_s.aside (b' := (ngB (zi false NQ + 1))) (A' := A12) (n' := n12) (c' := c12) (g := v7.heap.size) (by omega)
      replace zq := zq.put (b' := (ngB (zi false NQ + 1))) (A' := A12) (n' := n12) (c' := c12) x_p
      replace zs := zs.put (b' := (ngB (zi false NQ + 1))) (A' := A12) (n' := n12) (c' := c12) x_p
      replace zbz := zbz.put (b' := (ngB (zi false NQ + 1))) (A' := A12) (n' := n12) (c' := c12) x_p
      replace zy := zy.put (b' := (ngB (zi false NQ + 1))) (A' := A12) (n' := n12) (c' := c12) x_p
      replace zt := zt.put (b' := (ngB (zi false NQ + 1))) (A' := A12) (n' := n12) (c' := c12) x_p
      replace zo := zo.put (b' := (ngB (zi false NQ + 1))) (A' := A12) (n' := n12) (c' := c12) x_p
      replace zp := zp.put (b' := (ngB (zi false NQ + 1))) (A' := A12) (n' := n12) (c' := c12) x_p
      replace hb := put_below (g := v7.heap.size) hb (by omega) (.bool (ngB (zi false NQ + 1))) (.slice A12 n12 c12)
      replace x_p := x_p.put (ngB (zi false NQ + 1)) A12 n12 c12
      clear q_a q_b q_q q_r q_p q_s
      generalize (v15.setCell ⟨v7.heap.size, 0, none⟩ (.bool (ngB (zi false NQ + 1)))).setCell ⟨v7.heap.size, 1, none⟩ (.slice A12 n12 c12) = v16 at *
      have q_a := x_a.al
      have q_b := x_b.al
      have q_q := x_q.al
      have q_r := x_r.al
      have q_p := x_p.al
      have q_s := x_s.al
      go_region_held3 (fun w' => w'.cell? ⟨v7.heap.size, 0, none⟩ = some (.bool (ngB (zi false NQ + 1))) ∧ w'.cell? ⟨v7.heap.size, 1, none⟩ = some (.slice A12 n12 c12) ∧ w'.cell? ⟨v9.heap.size, 0, none⟩ = some (.bool (ngB (zi true NR + (Y.natAbs : Int)))) ∧ w'.cell? ⟨v9.heap.size, 1, none⟩ = some (.slice A10 n10 c10))
        (first | (with_reducible exact ⟨x_p.drew.c0, x_p.drew.c1, x_s.drew.c0, x_s.drew.c1⟩) | (with_reducible exact ⟨(x_p.aside (by omega)).drew.c0, (x_p.aside (by omega)).drew.c1, (x_s.aside (by omega)).drew.c0, (x_s.aside (by omega)).drew.c1⟩) | (with_reducible exact ⟨((x_p.aside (by omega)).aside (by omega)).drew.c0, ((x_p.aside (by omega)).aside (by omega)).drew.c1, ((x_s.aside (by omega)).aside (by omega)).drew.c0, ((x_s.aside (by omega)).aside (by omega)).drew.c1⟩) | go_keep)
        (first | fail)
      skip
      replace x_a := x_a.aside (b' := (ngB (zi false NQ + 1))) (A' := A12) (n' := n12) (c' := c12) (g := w.heap.size + 1 + 1) (by omega)
      replace x_b := x_b.aside (b' := (ngB (zi false NQ + 1))) (A' := A12) (n' := n12) (c' := c12) (g := w.heap.size + 1 + 1) (by omega)
      replace x_r := x_r.aside (b' := (ngB (zi false NQ + 1))) (A' := A12) (n' := n12) (c' := c12) (g := w.heap.size + 1 + 1) (by omega)
      replace x_p := x_p.aside (b' := (ngB (zi false NQ + 1))) (A' := A12) (n' := n12) (c' := c12) (g := w.heap.size + 1 + 1) (by omega)
      replace x_s := x_s.aside (b' := (ngB (zi false NQ + 1))) (A' := A12) (n' := n12) (c' := c12) (g := w.heap.size + 1 + 1) (by omega)
      replace zq := zq.put (b' := (ngB (zi false NQ + 1))) (A' := A12) (n' := n12) (c' := c12) x_q
      replace zs := zs.put (b' := (ngB (zi false NQ + 1))) (A' := A12) (n' := n12) (c' := c12) x_q
      replace zbz := zbz.put (b' := (ngB (zi false NQ + 1))) (A' := A12) (n' := n12) (c' := c12) x_q
      replace zy := zy.put (b' := (ngB (zi false NQ + 1))) (A' := A12) (n' := n12) (c' := c12) x_q
      replace zt := zt.put (b' := (ngB (zi false NQ + 1))) (A' := A12) (n' := n12) (c' := c12) x_q
      replace zo := zo.put (b' := (ngB (zi false NQ + 1))) (A' := A12) (n' := n12) (c' := c12) x_q
      replace zp := zp.put (b' := (ngB (zi false NQ + 1))) (A' := A12) (n' := n12) (c' := c12) x_q
      replace hb := put_below (g := w.heap.size + 1 + 1) hb (by omega) (.bool (ngB (zi false NQ + 1))) (.slice A12 n12 c12)
      replace x_q := x_q.put (ngB (zi false NQ + 1)) A12 n12 c12
      clear q_a q_b q_q q_r q_p q_s
      generalize (v16.setCell ⟨w.heap.size + 1 + 1, 0, none⟩ (.bool (ngB (zi false NQ + 1)))).setCell ⟨w.heap.size + 1 + 1, 1, none⟩ (.slice A12 n12 c12) = v17 at *
      have q_a := x_a.al
      have q_b := x_b.al
      have q_q := x_q.al
      have q_r := x_r.al
      have q_p := x_p.al
      have q_s := x_s.al
      replace x_a := x_a.aside (b' := (ngB (zi true NR + (Y.natAbs : Int)))) (A' := A10) (n' := n10) (c' := c10) (g := w.heap.size + 1 + 1 + 1) (by omega)
      replace x_b := x_b.aside (b' := (ngB (zi true NR + (Y.natAbs : Int)))) (A' := A10) (n' := n10) (c' := c10) (g := w.heap.size + 1 + 1 + 1) (by omega)
      replace x_q := x_q.aside (b' := (ngB (zi true NR + (Y.natAbs : Int)))) (A' := A10) (n' := n10) (c' := c10) (g := w.heap.size + 1 + 1 + 1) (by omega)
      replace x_p := x_p.aside (b' := (ngB (zi true NR + (Y.natAbs : Int)))) (A' := A10) (n' := n10) (c' := c10) (g := w.heap.size + 1 + 1 + 1) (by omega)
      replace x_s := x_s.aside (b' := (ngB (zi true NR + (Y.natAbs : Int)))) (A' := A10) (n' := n10) (c' := c10) (g := w.heap.size + 1 + 1 + 1) (by omega)
      replace zq := zq.put (b' := (ngB (zi true NR + (Y.natAbs : Int)))) (A' := A10) (n' := n10) (c' := c10) x_r
      replace zs := zs.put (b' := (ngB (zi true NR + (Y.natAbs : Int)))) (A' := A10) (n' := n10) (c' := c10) x_r
      replace zbz := zbz.put (b' := (ngB (zi true NR + (Y.natAbs : Int)))) (A' := A10) (n' := n10) (c' := c10) x_r
      replace zy := zy.put (b' := (ngB (zi true NR + (Y.natAbs : Int)))) (A' := A10) (n' := n10) (c' := c10) x_r
      replace zt := zt.put (b' := (ngB (zi true NR + (Y.natAbs : Int)))) (A' := A10) (n' := n10) (c' := c10) x_r
      replace zo := zo.put (b' := (ngB (zi true NR + (Y.natAbs : Int)))) (A' := A10) (n' := n10) (c' := c10) x_r
      replace zp := zp.put (b' := (ngB (zi true NR + (Y.natAbs : Int)))) (A' := A10) (n' := n10) (c' := c10) x_r
      replace hb := put_below (g := w.heap.size + 1 + 1 + 1) hb (by omega) (.bool (ngB (zi true NR + (Y.natAbs : Int)))) (.slice A10 n10 c10)
      replace x_r := x_r.put (ngB (zi true NR + (Y.natAbs : Int))) A10 n10 c10
      clear q_a q_b q_q q_r q_p q_s
      generalize (v17.setCell ⟨w.heap.size + 1 + 1 + 1, 0, none⟩ (.bool (ngB (zi true NR + (Y.natAbs : Int))))).setCell ⟨w.heap.size + 1 + 1 + 1, 1, none⟩ (.slice A10 n10 c10) = v18 at *
      have q_a := x_a.al
      have q_b := x_b.al
      have q_q := x_q.al
      have q_r := x_r.al
      have q_p := x_p.al
      have q_s := x_s.al
      replace x_a := x_a.drew
      replace x_b := x_b.drew
      replace x_q := x_q.drew
      replace x_r := x_r.drew
      replace x_p := x_p.drew
      replace x_s := x_s.drew
      replace zq := zq.drw
      replace zs := zs.drw
      replace zbz := zbz.drw
      replace zy := zy.drw
      replace zt := zt.drw
      replace zo := zo.drw
      replace zp := zp.drw
      replace hb := below_drew hb
      clear q_a q_b q_q q_r q_p q_s
      generalize v18.drew = v19 at *
      have q_a := x_a.al
      have q_b := x_b.al
      have q_q := x_q.al
      have q_r := x_r.al
      have q_p := x_p.al
      have q_s := x_s.al
      go_wp2
      refine bodyPost_ret (v := .tuple #[.agg #[.bool (ngB (zi false NQ + 1)), .slice A12 n12 c12], .agg #[.bool (ngB (zi true NR + (Y.natAbs : Int))), .slice A10 n10 c10], .bool true]) (by simp [results, Tryz.results107, go_sem, q_q, q_r]) rfl ?_
      exact ⟨_, _, _, _, _, _, rfl, zp, zt, hb⟩
end
end Go.Proofs.YtlaphcimlingaaaGreat
namespace Go.Proofs.YtlaphcimlingaaaGreat
section
set_option maxRecDepth 100000
open Go.RowKit
set_option linter.unusedVariables false

theorem RDivModZ_any {b b2 : Bool} {A A2 : Option Addr} {n c n2 c2 : Nat} {X Y : Int} {j j2 : Nat} {w : World} (h : Zr w b A n c X j) (h2 : Zr w b2 A2 n2 c2 Y j2) (hY : Y ≠ 0) (k : Nat) (hk : j + 1 ≤ k) (hk2 : j2 + 1 ≤ k) (hj : k ≤ 10000) :
    Calls Tryz.prog 107 #[.agg #[.bool b, .slice A n c], .agg #[.bool b2, .slice A2 n2 c2]] w (DqPost w (X / Y) (X % Y) (k + 1)) := by
  cases hng : ngB (zi (ngB X) (X.natAbs % Y.natAbs))
  · exact RDivModZ_plain h h2 hY k hk hk2 hj hng
  · cases hny : ngB Y
    · exact RDivModZ_moref h h2 hY k hk hk2 hj hng hny
    · exact RDivModZ_moret h h2 hY k hk hk2 hj hng hny

/-- The greatest integer that is not above a quotient. -/
def fqI (X Y : Int) : Int := if Y < 0 then (-X) / (-Y) else X / Y
theorem rd_fl {X Y : Int} (hY : Y ≠ 0) : roundI X Y = fqI (X + X + Y) (Y + Y) := by
  have key : ∀ X Y : Int, 0 < Y → rdQ X Y = (X + X + Y) / (Y + Y) := fun X Y h => by
    have h1 := Int.emod_add_mul_ediv X Y
    have h2 := Int.emod_nonneg X (show Y ≠ 0 by omega)
    have h3 := Int.emod_lt_of_pos X h
    unfold rdQ
    split
    · refine ((ed_unique (r := X % Y + X % Y - Y) (by omega) ?_ (by omega) (by omega)).1).symm
      rw [Int.add_mul, Int.mul_add, Int.mul_one]; omega
    · refine ((ed_unique (r := X % Y + X % Y + Y) (by omega) ?_ (by omega) (by omega)).1).symm
      rw [Int.add_mul]; omega
  unfold roundI fqI
  by_cases h : Y < 0
  · rw [if_pos h, if_pos (by omega), key _ _ (by omega)]; congr 1 <;> omega
  · rw [if_neg h, if_neg (by omega), key _ _ (by omega)]
theorem up_fl {X Y : Int} (hY : Y ≠ 0) : upI X Y = -fqI (-X) Y := by
  have key : ∀ X Y : Int, 0 < Y → upQ X Y = -((-X) / Y) := fun X Y h => by
    have h1 := Int.emod_add_mul_ediv X Y
    have h2 := Int.emod_nonneg X (show Y ≠ 0 by omega)
    have h3 := Int.emod_lt_of_pos X h
    unfold upQ
    split
    · have := (ed_unique (X := -X) (Y := Y) (q := -(X / Y + 1)) (r := Y - X % Y) (by omega) (by rw [Int.mul_neg, Int.mul_add, Int.mul_one]; omega) (by omega) (by omega)).1
      omega
    · have := (ed_unique (X := -X) (Y := Y) (q := -(X / Y)) (r := 0) (by omega) (by rw [Int.mul_neg]; omega) (by omega) (by omega)).1
      omega
  unfold upI fqI
  by_cases h : Y < 0
  · rw [if_pos h, if_pos h, key _ _ (by omega)]
  · rw [if_neg h, if_neg h, key _ _ (by omega)]

set_option maxRecDepth 100000 in
set_option maxHeartbeats 2000000 in
theorem RGcdZ_any {b b2 : Bool} {A A2 : Option Addr} {n c n2 c2 : Nat} {X Y : Int} {j j2 : Nat} {w : World} (h : Zr w b A n c X j) (h2 : Zr w b2 A2 n2 c2 Y j2) (k : Nat) (hk : j ≤ k) (hk2 : j2 ≤ k) (hj : k ≤ 10000) :
    Calls Tryz.prog 103 #[.agg #[.bool b, .slice A n c], .agg #[.bool b2, .slice A2 n2 c2]] w (OutZ w (Nat.gcd X.natAbs Y.natAbs : Int) k) := by
  obtain ⟨l, h, rfl, hn⟩ := h
  obtain ⟨m, h2, rfl, hn2⟩ := h2
  have hs := Sm.of h hn
  have hs2 := Sm.of h2 hn2
  generalize hN : vl Wd l = N at *
  have HN := Lib.hid hN; clear hN
  generalize hM : vl Wd m = M at *
  have HM := Lib.hid hM; clear hM
  rw [zi_abs, zi_abs, ← zi_false]
  have hs3 := (hs.mono hk).gcd (hs2.mono hk2)
  clear hs hs2
  go_enter Tryz.func103, Tryz.ntmps103
  go_wp2_with fail
  obtain ⟨hb, x_a, x_b, x_r⟩ := box3 w b A n c b2 A2 n2 c2 false none 0 0
  generalize ((w.alloc (.cells #[.bool b, .slice A n c] 26)).alloc (.cells #[.bool b2, .slice A2 n2 c2] 26)).alloc (.cells #[.bool false, .slice none 0 0] 26) = v1 at *
  replace h := h.go hb
  replace h2 := h2.go hb
  have q_a := x_a.al
  have q_b := x_b.al
  have q_r := x_r.al
  go_wp2_with fail
  with_reducible refine (RGcd_any _ _ _ _ _ _ _ _ _ h h2 (by omega) (by omega)).mono ?_
  rintro e v2 ⟨A1, n1, c1, rfl, g1, hb1⟩
  obtain ⟨x_a, x_b, x_r⟩ := mv3 hb1 x_a x_b x_r
  replace h := h.go hb1
  replace h2 := h2.go hb1
  replace hb := bthen hb hb1
  clear hb1
  replace q_a := x_a.al
  replace q_b := x_b.al
  replace q_r := x_r.al
  rw [HN.out, HM.out] at g1
  have zn1 := g1.small hs3
  go_wp2_with fail
  with_reducible refine (RMake_any (b := false) g1 (Nat.gcd N M) k (vl_dg Wd2 _) hs3 (by omega)).mono ?_
  rintro e v3 ⟨A3, n3, c3, rfl, z1, hb1⟩
  obtain ⟨x_a, x_b, x_r⟩ := mv3 hb1 x_a x_b x_r
  replace h := h.go hb1
  replace h2 := h2.go hb1
  replace g1 := g1.go hb1
  replace hb := bthen hb hb1
  clear hb1
  replace q_a := x_a.al
  replace q_b := x_b.al
  replace q_r := x_r.al
  go_wp2
  replace x_a := x_a.aside (b' := (ngB (zi false (Nat.gcd N M)))) (A' := A3) (n' := n3) (c' := c3) (g := w.heap.size + 1 + 1) (by omega)
  replace x_b := x_b.aside (b' := (ngB (zi false (Nat.gcd N M)))) (A' := A3) (n' := n3) (c' := c3) (g := w.heap.size + 1 + 1) (by omega)
  replace h := h.sput (b' := (ngB (zi false (Nat.gcd N M)))) (A' := A3) (n' := n3) (c' := c3) x_r
  replace h2 := h2.sput (b' := (ngB (zi false (Nat.gcd N M)))) (A' := A3) (n' := n3) (c' := c3) x_r
  replace g1 := g1.sput (b' := (ngB (zi false (Nat.gcd N M)))) (A' := A3) (n' := n3) (c' := c3) x_r
  replace z1 := z1.put (b' := (ngB (zi false (Nat.gcd N M)))) (A' := A3) (n' := n3) (c' := c3) x_r
  replace hb := put_below (g := w.heap.size + 1 + 1) hb (by omega) (.bool (ngB (zi false (Nat.gcd N M)))) (.slice A3 n3 c3)
  replace x_r := x_r.put (ngB (zi false (Nat.gcd N M))) A3 n3 c3
  clear q_a q_b q_r
  generalize (v3.setCell ⟨w.heap.size + 1 + 1, 0, none⟩ (.bool (ngB (zi false (Nat.gcd N M))))).setCell ⟨w.heap.size + 1 + 1, 1, none⟩ (.slice A3 n3 c3) = v4 at *
  have q_a := x_a.al
  have q_b := x_b.al
  have q_r := x_r.al
  refine bodyPost_ret (v := .agg #[.bool (ngB (zi false (Nat.gcd N M))), .slice A3 n3 c3]) (by simp [results, Tryz.results103, go_sem, q_r]) rfl ?_
  exact ⟨_, _, _, rfl, z1, hb⟩
end
end Go.Proofs.YtlaphcimlingaaaGreat
