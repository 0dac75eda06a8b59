/-
 zed: Up.
-/
import Derived.Test.YtdonaominffpnaaGreatDoorPj
namespace Go.Proofs.YtdonaominffpnaaGreatDoor
set_option maxRecDepth 100000
set_option maxHeartbeats 16000000
set_option linter.unusedVariables false
section
open Go.RowKit
theorem ZUp_any {b b2 : Bool} {A A2 : Option Addr} {n c n2 c2 : Nat} {X Y : Int} {j j2 : Nat} {w : World} (h : Zr w b A n c X j) (h2 : Zr w b2 A2 n2 c2 Y j2) (hY : Y ≠ 0) (k : Nat) (hk : j + 1 ≤ k) (hk2 : j2 ≤ k) (hj : k ≤ 100000) :
  Calls Tryz.prog 240 #[.agg #[.bool b, .slice A n c], .agg #[.bool b2, .slice A2 n2 c2]] w (RdPost w (upI X Y) (k + 1)) := by
 cases b2
 ·have hY0 : 0 < Y := by obtain ⟨m, _, rfl, _⟩ := h2; rw [zi_false] at hY ⊢; omega
  rw [show upI X Y = upQ X Y by unfold upI; rw [if_neg (by omega)]]
  by_cases hc : 0 < X % Y
  ·have hr : upQ X Y = X / Y + 1 := by unfold upQ; rw [if_pos hc]
   have hsg : 0 < sgnI (X % Y) := sgnI_gt0.2 hc
   have hsb := sgnI_is (X % Y)
   rw [hr]
   clear hr hc
   have HY := Lib.hid hY0; clear hY0 hY
   generalize hQ9 : X / Y = Q at *
   generalize hR9 : X % Y = R at *
   have HQ := Lib.hid hQ9; have HR := Lib.hid hR9; clear hQ9 hR9
   generalize hS9 : sgnI R = S at *
   have HS := Lib.hid hS9; clear hS9
   go_enter Tryz.func240, Tryz.ntmps240
   go_wp2_with fail
   obtain ⟨hb, x_a, x_b, x_r⟩ := box3 w b A n c false A2 n2 c2 false none 0 0
   generalize ((w.alloc (.cells #[.bool b, .slice A n c] 24)).alloc (.cells #[.bool false, .slice A2 n2 c2] 24)).alloc (.cells #[.bool false, .slice none 0 0] 24) = v1 at *
   obtain ⟨h, h2⟩ := mv2 hb h h2
   have q_a := x_a.al
   have q_b := x_b.al
   have q_r := x_r.al
   go_wp2_with fail
   with_reducible refine (pd_false b A A2 n c n2 c2 _).mono ?_
   rintro e v2 ⟨rfl, hb1⟩
   obtain ⟨x_a, x_b, x_r, h, h2⟩ := mv5 hb1 x_a x_b x_r h h2
   replace hb := bthen hb hb1
   clear hb1
   replace q_a := x_a.al
   replace q_b := x_b.al
   replace q_r := x_r.al
   go_wp2_with fail
   replace x_b := x_b.aside (b' := b) (A' := A) (n' := n) (c' := c) (g := w.heap.size) (by omega)
   replace x_r := x_r.aside (b' := b) (A' := A) (n' := n) (c' := c) (g := w.heap.size) (by omega)
   replace h := h.put (b' := b) (A' := A) (n' := n) (c' := c) x_a
   replace h2 := h2.put (b' := b) (A' := A) (n' := n) (c' := c) x_a
   replace hb := put_below (g := w.heap.size) hb (by omega) (.bool b) (.slice A n c)
   replace x_a := x_a.put b A n c
   clear q_a q_b q_r
   generalize (v2.setCell ⟨w.heap.size, 0, none⟩ (.bool b)).setCell ⟨w.heap.size, 1, none⟩ (.slice A n c) = v3 at *
   have q_a := x_a.al
   have q_b := x_b.al
   have q_r := x_r.al
   replace x_a := x_a.aside (b' := false) (A' := A2) (n' := n2) (c' := c2) (g := w.heap.size + 1) (by omega)
   replace x_r := x_r.aside (b' := false) (A' := A2) (n' := n2) (c' := c2) (g := w.heap.size + 1) (by omega)
   replace h := h.put (b' := false) (A' := A2) (n' := n2) (c' := c2) x_b
   replace h2 := h2.put (b' := false) (A' := A2) (n' := n2) (c' := c2) x_b
   replace hb := put_below (g := w.heap.size + 1) hb (by omega) (.bool false) (.slice A2 n2 c2)
   replace x_b := x_b.put false A2 n2 c2
   clear q_a q_b q_r
   generalize (v3.setCell ⟨w.heap.size + 1, 0, none⟩ (.bool false)).setCell ⟨w.heap.size + 1, 1, none⟩ (.slice A2 n2 c2) = v4 at *
   have q_a := x_a.al
   have q_b := x_b.al
   have q_r := x_r.al
   skip
   with_reducible refine (ZDivMod_any h h2 (by have := HY.out; omega) k hk hk2 (by omega)).mono ?_
   rintro e v5 ⟨A1, n1, c1, A3, n3, c3, rfl, z1, z2, hb1⟩
   obtain ⟨x_a, x_b, x_r, h, h2⟩ := mv5 hb1 x_a x_b x_r h h2
   replace hb := bthen hb hb1
   clear hb1
   replace q_a := x_a.al
   replace q_b := x_b.al
   replace q_r := x_r.al
   rw [HQ.out] at z1 ⊢
   rw [HR.out] at z2 ⊢
   go_wp2_with fail
   have l_a_q := x_a.lt
   have l_b_q := x_b.lt
   have l_r_q := x_r.lt
   have e_q : w.heap.size ≤ v5.heap.size := hb.size
   obtain ⟨hb1, x_q, x_s⟩ := box2 v5 (ngB Q) A1 n1 c1 (ngB R) A3 n3 c3
   obtain ⟨x_a, x_b, x_r, h, h2, z1, z2⟩ := mv7 hb1 x_a x_b x_r h h2 z1 z2
   replace hb := bthen hb hb1
   clear hb1
   replace q_a := x_a.al
   replace q_b := x_b.al
   replace q_r := x_r.al
   clear q_a q_b q_r
   generalize (v5.alloc (.cells #[.bool (ngB Q), .slice A1 n1 c1] 24)).alloc (.cells #[.bool (ngB R), .slice A3 n3 c3] 24) = v6 at *
   have q_a := x_a.al
   have q_b := x_b.al
   have q_r := x_r.al
   have q_q := x_q.al
   have q_s := x_s.al
   skip
   with_reducible refine (ZSign_any z2.zr (by omega)).mono ?_
   rintro e v7 ⟨rfl, hb1⟩
   obtain ⟨x_a, x_b, x_r, x_q, x_s, h, h2, z1, z2⟩ := mv9 hb1 x_a x_b x_r x_q x_s h h2 z1 z2
   replace hb := bthen hb hb1
   clear hb1
   replace q_a := x_a.al
   replace q_b := x_b.al
   replace q_r := x_r.al
   replace q_q := x_q.al
   replace q_s := x_s.al
   rw [HS.out]
   go_wp2_with fail
   go_region_with ((first | (go_at_call 22; (with_reducible refine (ZOf_any 1 (by omega) (by omega)).mono ?_); rintro e v8 ⟨A5, n5, c5, rfl, z4, hb1⟩; replace hb1 := undrew hb1; obtain ⟨x_a, x_b, x_r, x_q, x_s, h, h2, z1, z2⟩ := mv9 hb1 x_a x_b x_r x_q x_s h h2 z1 z2; replace hb := bthen hb hb1; clear hb1; replace q_a := x_a.al; replace q_b := x_b.al; replace q_r := x_r.al; replace q_q := x_q.al; replace q_s := x_s.al) | (go_at_call 23; (with_reducible refine (ZAdd_any z1.zr z4.zr (k + 1) (Nat.le_refl _) (by omega) (by omega)).mono ?_); rintro e v9 ⟨A6, n6, c6, rfl, z5, hb1⟩; obtain ⟨x_a, x_b, x_r, x_q, x_s, h, h2, z1, z2⟩ := mv9 hb1 x_a x_b x_r x_q x_s h h2 z1 z2; replace z4 := z4.keep hb1; replace hb := bthen hb hb1; clear hb1; replace q_a := x_a.al; replace q_b := x_b.al; replace q_r := x_r.al; replace q_q := x_q.al; replace q_s := x_s.al)))
   all_goals
    go_wp2_with fail
    replace x_a := x_a.aside (b' := (ngB (Q + 1))) (A' := A6) (n' := n6) (c' := c6) (g := v5.heap.size) (by omega)
    replace x_b := x_b.aside (b' := (ngB (Q + 1))) (A' := A6) (n' := n6) (c' := c6) (g := v5.heap.size) (by omega)
    replace x_r := x_r.aside (b' := (ngB (Q + 1))) (A' := A6) (n' := n6) (c' := c6) (g := v5.heap.size) (by omega)
    replace x_s := x_s.aside (b' := (ngB (Q + 1))) (A' := A6) (n' := n6) (c' := c6) (g := v5.heap.size) (by omega)
    replace h := h.put (b' := (ngB (Q + 1))) (A' := A6) (n' := n6) (c' := c6) x_q
    replace h2 := h2.put (b' := (ngB (Q + 1))) (A' := A6) (n' := n6) (c' := c6) x_q
    replace z1 := z1.put (b' := (ngB (Q + 1))) (A' := A6) (n' := n6) (c' := c6) x_q
    replace z2 := z2.put (b' := (ngB (Q + 1))) (A' := A6) (n' := n6) (c' := c6) x_q
    replace z4 := z4.put (b' := (ngB (Q + 1))) (A' := A6) (n' := n6) (c' := c6) x_q
    replace z5 := z5.put (b' := (ngB (Q + 1))) (A' := A6) (n' := n6) (c' := c6) x_q
    replace hb := put_below (g := v5.heap.size) hb (by omega) (.bool (ngB (Q + 1))) (.slice A6 n6 c6)
    replace x_q := x_q.put (ngB (Q + 1)) A6 n6 c6
    clear q_a q_b q_r q_q q_s
    generalize (v9.setCell ⟨v5.heap.size, 0, none⟩ (.bool (ngB (Q + 1)))).setCell ⟨v5.heap.size, 1, none⟩ (.slice A6 n6 c6) = v10 at *
    have q_a := x_a.al
    have q_b := x_b.al
    have q_r := x_r.al
    have q_q := x_q.al
    have q_s := x_s.al
    go_wp2
    replace x_a := x_a.aside (b' := (ngB (Q + 1))) (A' := A6) (n' := n6) (c' := c6) (g := w.heap.size + 1 + 1) (by omega)
    replace x_b := x_b.aside (b' := (ngB (Q + 1))) (A' := A6) (n' := n6) (c' := c6) (g := w.heap.size + 1 + 1) (by omega)
    replace x_q := x_q.aside (b' := (ngB (Q + 1))) (A' := A6) (n' := n6) (c' := c6) (g := w.heap.size + 1 + 1) (by omega)
    replace x_s := x_s.aside (b' := (ngB (Q + 1))) (A' := A6) (n' := n6) (c' := c6) (g := w.heap.size + 1 + 1) (by omega)
    replace h := h.put (b' := (ngB (Q + 1))) (A' := A6) (n' := n6) (c' := c6) x_r
    replace h2 := h2.put (b' := (ngB (Q + 1))) (A' := A6) (n' := n6) (c' := c6) x_r
    replace z1 := z1.put (b' := (ngB (Q + 1))) (A' := A6) (n' := n6) (c' := c6) x_r
    replace z2 := z2.put (b' := (ngB (Q + 1))) (A' := A6) (n' := n6) (c' := c6) x_r
    replace z4 := z4.put (b' := (ngB (Q + 1))) (A' := A6) (n' := n6) (c' := c6) x_r
    replace z5 := z5.put (b' := (ngB (Q + 1))) (A' := A6) (n' := n6) (c' := c6) x_r
    replace hb := put_below (g := w.heap.size + 1 + 1) hb (by omega) (.bool (ngB (Q + 1))) (.slice A6 n6 c6)
    replace x_r := x_r.put (ngB (Q + 1)) A6 n6 c6
    clear q_a q_b q_r q_q q_s
    generalize (v10.setCell ⟨w.heap.size + 1 + 1, 0, none⟩ (.bool (ngB (Q + 1)))).setCell ⟨w.heap.size + 1 + 1, 1, none⟩ (.slice A6 n6 c6) = v11 at *
    have q_a := x_a.al
    have q_b := x_b.al
    have q_r := x_r.al
    have q_q := x_q.al
    have q_s := x_s.al
    refine bodyPost_ret (v := .tuple #[.agg #[.bool (ngB (Q + 1)), .slice A6 n6 c6], .bool true]) (by simp [results, Tryz.results240, go_sem, q_r]) rfl ?_
    exact ⟨_, _, _, rfl, z5, hb⟩
  ·have hr : upQ X Y = X / Y := by unfold upQ; rw [if_neg hc]
   have hsg : ¬ 0 < sgnI (X % Y) := mt sgnI_gt0.1 hc
   have hsb := sgnI_is (X % Y)
   rw [hr]
   clear hr hc
   have HY := Lib.hid hY0; clear hY0 hY
   generalize hQ9 : X / Y = Q at *
   generalize hR9 : X % Y = R at *
   have HQ := Lib.hid hQ9; have HR := Lib.hid hR9; clear hQ9 hR9
   generalize hS9 : sgnI R = S at *
   have HS := Lib.hid hS9; clear hS9
   go_enter Tryz.func240, Tryz.ntmps240
   go_wp2_with fail
   obtain ⟨hb, x_a, x_b, x_r⟩ := box3 w b A n c false A2 n2 c2 false none 0 0
   generalize ((w.alloc (.cells #[.bool b, .slice A n c] 24)).alloc (.cells #[.bool false, .slice A2 n2 c2] 24)).alloc (.cells #[.bool false, .slice none 0 0] 24) = v1 at *
   obtain ⟨h, h2⟩ := mv2 hb h h2
   have q_a := x_a.al
   have q_b := x_b.al
   have q_r := x_r.al
   go_wp2_with fail
   with_reducible refine (pd_false b A A2 n c n2 c2 _).mono ?_
   rintro e v2 ⟨rfl, hb1⟩
   obtain ⟨x_a, x_b, x_r, h, h2⟩ := mv5 hb1 x_a x_b x_r h h2
   replace hb := bthen hb hb1
   clear hb1
   replace q_a := x_a.al
   replace q_b := x_b.al
   replace q_r := x_r.al
   go_wp2_with fail
   replace x_b := x_b.aside (b' := b) (A' := A) (n' := n) (c' := c) (g := w.heap.size) (by omega)
   replace x_r := x_r.aside (b' := b) (A' := A) (n' := n) (c' := c) (g := w.heap.size) (by omega)
   replace h := h.put (b' := b) (A' := A) (n' := n) (c' := c) x_a
   replace h2 := h2.put (b' := b) (A' := A) (n' := n) (c' := c) x_a
   replace hb := put_below (g := w.heap.size) hb (by omega) (.bool b) (.slice A n c)
   replace x_a := x_a.put b A n c
   clear q_a q_b q_r
   generalize (v2.setCell ⟨w.heap.size, 0, none⟩ (.bool b)).setCell ⟨w.heap.size, 1, none⟩ (.slice A n c) = v3 at *
   have q_a := x_a.al
   have q_b := x_b.al
   have q_r := x_r.al
   replace x_a := x_a.aside (b' := false) (A' := A2) (n' := n2) (c' := c2) (g := w.heap.size + 1) (by omega)
   replace x_r := x_r.aside (b' := false) (A' := A2) (n' := n2) (c' := c2) (g := w.heap.size + 1) (by omega)
   replace h := h.put (b' := false) (A' := A2) (n' := n2) (c' := c2) x_b
   replace h2 := h2.put (b' := false) (A' := A2) (n' := n2) (c' := c2) x_b
   replace hb := put_below (g := w.heap.size + 1) hb (by omega) (.bool false) (.slice A2 n2 c2)
   replace x_b := x_b.put false A2 n2 c2
   clear q_a q_b q_r
   generalize (v3.setCell ⟨w.heap.size + 1, 0, none⟩ (.bool false)).setCell ⟨w.heap.size + 1, 1, none⟩ (.slice A2 n2 c2) = v4 at *
   have q_a := x_a.al
   have q_b := x_b.al
   have q_r := x_r.al
   skip
   with_reducible refine (ZDivMod_any h h2 (by have := HY.out; omega) k hk hk2 (by omega)).mono ?_
   rintro e v5 ⟨A1, n1, c1, A3, n3, c3, rfl, z1, z2, hb1⟩
   obtain ⟨x_a, x_b, x_r, h, h2⟩ := mv5 hb1 x_a x_b x_r h h2
   replace hb := bthen hb hb1
   clear hb1
   replace q_a := x_a.al
   replace q_b := x_b.al
   replace q_r := x_r.al
   rw [HQ.out] at z1 ⊢
   rw [HR.out] at z2 ⊢
   go_wp2_with fail
   have l_a_q := x_a.lt
   have l_b_q := x_b.lt
   have l_r_q := x_r.lt
   have e_q : w.heap.size ≤ v5.heap.size := hb.size
   obtain ⟨hb1, x_q, x_s⟩ := box2 v5 (ngB Q) A1 n1 c1 (ngB R) A3 n3 c3
   obtain ⟨x_a, x_b, x_r, h, h2, z1, z2⟩ := mv7 hb1 x_a x_b x_r h h2 z1 z2
   replace hb := bthen hb hb1
   clear hb1
   replace q_a := x_a.al
   replace q_b := x_b.al
   replace q_r := x_r.al
   clear q_a q_b q_r
   generalize (v5.alloc (.cells #[.bool (ngB Q), .slice A1 n1 c1] 24)).alloc (.cells #[.bool (ngB R), .slice A3 n3 c3] 24) = v6 at *
   have q_a := x_a.al
   have q_b := x_b.al
   have q_r := x_r.al
   have q_q := x_q.al
   have q_s := x_s.al
   skip
   with_reducible refine (ZSign_any z2.zr (by omega)).mono ?_
   rintro e v7 ⟨rfl, hb1⟩
   obtain ⟨x_a, x_b, x_r, x_q, x_s, h, h2, z1, z2⟩ := mv9 hb1 x_a x_b x_r x_q x_s h h2 z1 z2
   replace hb := bthen hb hb1
   clear hb1
   replace q_a := x_a.al
   replace q_b := x_b.al
   replace q_r := x_r.al
   replace q_q := x_q.al
   replace q_s := x_s.al
   rw [HS.out]
   go_wp2
   replace x_a := x_a.aside (b' := (ngB Q)) (A' := A1) (n' := n1) (c' := c1) (g := w.heap.size + 1 + 1) (by omega)
   replace x_b := x_b.aside (b' := (ngB Q)) (A' := A1) (n' := n1) (c' := c1) (g := w.heap.size + 1 + 1) (by omega)
   replace x_q := x_q.aside (b' := (ngB Q)) (A' := A1) (n' := n1) (c' := c1) (g := w.heap.size + 1 + 1) (by omega)
   replace x_s := x_s.aside (b' := (ngB Q)) (A' := A1) (n' := n1) (c' := c1) (g := w.heap.size + 1 + 1) (by omega)
   replace h := h.put (b' := (ngB Q)) (A' := A1) (n' := n1) (c' := c1) x_r
   replace h2 := h2.put (b' := (ngB Q)) (A' := A1) (n' := n1) (c' := c1) x_r
   replace z1 := z1.put (b' := (ngB Q)) (A' := A1) (n' := n1) (c' := c1) x_r
   replace z2 := z2.put (b' := (ngB Q)) (A' := A1) (n' := n1) (c' := c1) x_r
   replace hb := put_below (g := w.heap.size + 1 + 1) hb (by omega) (.bool (ngB Q)) (.slice A1 n1 c1)
   replace x_r := x_r.put (ngB Q) A1 n1 c1
   clear q_a q_b q_r q_q q_s
   generalize (v7.setCell ⟨w.heap.size + 1 + 1, 0, none⟩ (.bool (ngB Q))).setCell ⟨w.heap.size + 1 + 1, 1, none⟩ (.slice A1 n1 c1) = v8 at *
   have q_a := x_a.al
   have q_b := x_b.al
   have q_r := x_r.al
   have q_q := x_q.al
   have q_s := x_s.al
   refine bodyPost_ret (v := .tuple #[.agg #[.bool (ngB Q), .slice A1 n1 c1], .bool true]) (by simp [results, Tryz.results240, go_sem, q_r]) rfl ?_
   exact ⟨_, _, _, rfl, z1.wide (by omega), hb⟩
 ·have hY0 : 0 < -Y := by obtain ⟨m, _, rfl, _⟩ := h2; rw [zi_true] at hY ⊢; omega
  rw [show upI X Y = upQ (-X) (-Y) by unfold upI; rw [if_pos (by omega)]]
  by_cases hc : 0 < (-X) % (-Y)
  ·have hr : upQ (-X) (-Y) = (-X) / (-Y) + 1 := by unfold upQ; rw [if_pos hc]
   have hsg : 0 < sgnI ((-X) % (-Y)) := sgnI_gt0.2 hc
   have hsb := sgnI_is ((-X) % (-Y))
   rw [hr]
   clear hr hc
   have HY := Lib.hid hY0; clear hY0 hY
   generalize hQ9 : (-X) / (-Y) = Q at *
   generalize hR9 : (-X) % (-Y) = R at *
   have HQ := Lib.hid hQ9; have HR := Lib.hid hR9; clear hQ9 hR9
   generalize hS9 : sgnI R = S at *
   have HS := Lib.hid hS9; clear hS9
   go_enter Tryz.func240, Tryz.ntmps240
   go_wp2_with fail
   obtain ⟨hb, x_a, x_b, x_r⟩ := box3 w b A n c true A2 n2 c2 false none 0 0
   generalize ((w.alloc (.cells #[.bool b, .slice A n c] 24)).alloc (.cells #[.bool true, .slice A2 n2 c2] 24)).alloc (.cells #[.bool false, .slice none 0 0] 24) = v1 at *
   obtain ⟨h, h2⟩ := mv2 hb h h2
   have q_a := x_a.al
   have q_b := x_b.al
   have q_r := x_r.al
   go_wp2_with fail
   with_reducible refine (pd_true b A A2 n c n2 c2 _).mono ?_
   rintro e v2 ⟨rfl, hb1⟩
   obtain ⟨x_a, x_b, x_r, h, h2⟩ := mv5 hb1 x_a x_b x_r h h2
   replace hb := bthen hb hb1
   clear hb1
   replace q_a := x_a.al
   replace q_b := x_b.al
   replace q_r := x_r.al
   go_wp2_with fail
   replace x_b := x_b.aside (b' := (!b)) (A' := A) (n' := n) (c' := c) (g := w.heap.size) (by omega)
   replace x_r := x_r.aside (b' := (!b)) (A' := A) (n' := n) (c' := c) (g := w.heap.size) (by omega)
   replace h := h.put (b' := (!b)) (A' := A) (n' := n) (c' := c) x_a
   replace h2 := h2.put (b' := (!b)) (A' := A) (n' := n) (c' := c) x_a
   replace hb := put_below (g := w.heap.size) hb (by omega) (.bool (!b)) (.slice A n c)
   replace x_a := x_a.put (!b) A n c
   clear q_a q_b q_r
   generalize (v2.setCell ⟨w.heap.size, 0, none⟩ (.bool (!b))).setCell ⟨w.heap.size, 1, none⟩ (.slice A n c) = v3 at *
   have q_a := x_a.al
   have q_b := x_b.al
   have q_r := x_r.al
   replace x_a := x_a.aside (b' := false) (A' := A2) (n' := n2) (c' := c2) (g := w.heap.size + 1) (by omega)
   replace x_r := x_r.aside (b' := false) (A' := A2) (n' := n2) (c' := c2) (g := w.heap.size + 1) (by omega)
   replace h := h.put (b' := false) (A' := A2) (n' := n2) (c' := c2) x_b
   replace h2 := h2.put (b' := false) (A' := A2) (n' := n2) (c' := c2) x_b
   replace hb := put_below (g := w.heap.size + 1) hb (by omega) (.bool false) (.slice A2 n2 c2)
   replace x_b := x_b.put false A2 n2 c2
   clear q_a q_b q_r
   generalize (v3.setCell ⟨w.heap.size + 1, 0, none⟩ (.bool false)).setCell ⟨w.heap.size + 1, 1, none⟩ (.slice A2 n2 c2) = v4 at *
   have q_a := x_a.al
   have q_b := x_b.al
   have q_r := x_r.al
   replace h := h.flip
   replace h2 := h2.flipt
   skip
   with_reducible refine (ZDivMod_any h h2 (by have := HY.out; omega) k hk hk2 (by omega)).mono ?_
   rintro e v5 ⟨A1, n1, c1, A3, n3, c3, rfl, z1, z2, hb1⟩
   obtain ⟨x_a, x_b, x_r, h, h2⟩ := mv5 hb1 x_a x_b x_r h h2
   replace hb := bthen hb hb1
   clear hb1
   replace q_a := x_a.al
   replace q_b := x_b.al
   replace q_r := x_r.al
   rw [HQ.out] at z1 ⊢
   rw [HR.out] at z2 ⊢
   go_wp2_with fail
   have l_a_q := x_a.lt
   have l_b_q := x_b.lt
   have l_r_q := x_r.lt
   have e_q : w.heap.size ≤ v5.heap.size := hb.size
   obtain ⟨hb1, x_q, x_s⟩ := box2 v5 (ngB Q) A1 n1 c1 (ngB R) A3 n3 c3
   obtain ⟨x_a, x_b, x_r, h, h2, z1, z2⟩ := mv7 hb1 x_a x_b x_r h h2 z1 z2
   replace hb := bthen hb hb1
   clear hb1
   replace q_a := x_a.al
   replace q_b := x_b.al
   replace q_r := x_r.al
   clear q_a q_b q_r
   generalize (v5.alloc (.cells #[.bool (ngB Q), .slice A1 n1 c1] 24)).alloc (.cells #[.bool (ngB R), .slice A3 n3 c3] 24) = v6 at *
   have q_a := x_a.al
   have q_b := x_b.al
   have q_r := x_r.al
   have q_q := x_q.al
   have q_s := x_s.al
   skip
   with_reducible refine (ZSign_any z2.zr (by omega)).mono ?_
   rintro e v7 ⟨rfl, hb1⟩
   obtain ⟨x_a, x_b, x_r, x_q, x_s, h, h2, z1, z2⟩ := mv9 hb1 x_a x_b x_r x_q x_s h h2 z1 z2
   replace hb := bthen hb hb1
   clear hb1
   replace q_a := x_a.al
   replace q_b := x_b.al
   replace q_r := x_r.al
   replace q_q := x_q.al
   replace q_s := x_s.al
   rw [HS.out]
   go_wp2_with fail
   go_region_with ((first | (go_at_call 22; (with_reducible refine (ZOf_any 1 (by omega) (by omega)).mono ?_); rintro e v8 ⟨A5, n5, c5, rfl, z4, hb1⟩; replace hb1 := undrew hb1; obtain ⟨x_a, x_b, x_r, x_q, x_s, h, h2, z1, z2⟩ := mv9 hb1 x_a x_b x_r x_q x_s h h2 z1 z2; replace hb := bthen hb hb1; clear hb1; replace q_a := x_a.al; replace q_b := x_b.al; replace q_r := x_r.al; replace q_q := x_q.al; replace q_s := x_s.al) | (go_at_call 23; (with_reducible refine (ZAdd_any z1.zr z4.zr (k + 1) (Nat.le_refl _) (by omega) (by omega)).mono ?_); rintro e v9 ⟨A6, n6, c6, rfl, z5, hb1⟩; obtain ⟨x_a, x_b, x_r, x_q, x_s, h, h2, z1, z2⟩ := mv9 hb1 x_a x_b x_r x_q x_s h h2 z1 z2; replace z4 := z4.keep hb1; replace hb := bthen hb hb1; clear hb1; replace q_a := x_a.al; replace q_b := x_b.al; replace q_r := x_r.al; replace q_q := x_q.al; replace q_s := x_s.al)))
   all_goals
    go_wp2_with fail
    replace x_a := x_a.aside (b' := (ngB (Q + 1))) (A' := A6) (n' := n6) (c' := c6) (g := v5.heap.size) (by omega)
    replace x_b := x_b.aside (b' := (ngB (Q + 1))) (A' := A6) (n' := n6) (c' := c6) (g := v5.heap.size) (by omega)
    replace x_r := x_r.aside (b' := (ngB (Q + 1))) (A' := A6) (n' := n6) (c' := c6) (g := v5.heap.size) (by omega)
    replace x_s := x_s.aside (b' := (ngB (Q + 1))) (A' := A6) (n' := n6) (c' := c6) (g := v5.heap.size) (by omega)
    replace h := h.put (b' := (ngB (Q + 1))) (A' := A6) (n' := n6) (c' := c6) x_q
    replace h2 := h2.put (b' := (ngB (Q + 1))) (A' := A6) (n' := n6) (c' := c6) x_q
    replace z1 := z1.put (b' := (ngB (Q + 1))) (A' := A6) (n' := n6) (c' := c6) x_q
    replace z2 := z2.put (b' := (ngB (Q + 1))) (A' := A6) (n' := n6) (c' := c6) x_q
    replace z4 := z4.put (b' := (ngB (Q + 1))) (A' := A6) (n' := n6) (c' := c6) x_q
    replace z5 := z5.put (b' := (ngB (Q + 1))) (A' := A6) (n' := n6) (c' := c6) x_q
    replace hb := put_below (g := v5.heap.size) hb (by omega) (.bool (ngB (Q + 1))) (.slice A6 n6 c6)
    replace x_q := x_q.put (ngB (Q + 1)) A6 n6 c6
    clear q_a q_b q_r q_q q_s
    generalize (v9.setCell ⟨v5.heap.size, 0, none⟩ (.bool (ngB (Q + 1)))).setCell ⟨v5.heap.size, 1, none⟩ (.slice A6 n6 c6) = v10 at *
    have q_a := x_a.al
    have q_b := x_b.al
    have q_r := x_r.al
    have q_q := x_q.al
    have q_s := x_s.al
    go_wp2
    replace x_a := x_a.aside (b' := (ngB (Q + 1))) (A' := A6) (n' := n6) (c' := c6) (g := w.heap.size + 1 + 1) (by omega)
    replace x_b := x_b.aside (b' := (ngB (Q + 1))) (A' := A6) (n' := n6) (c' := c6) (g := w.heap.size + 1 + 1) (by omega)
    replace x_q := x_q.aside (b' := (ngB (Q + 1))) (A' := A6) (n' := n6) (c' := c6) (g := w.heap.size + 1 + 1) (by omega)
    replace x_s := x_s.aside (b' := (ngB (Q + 1))) (A' := A6) (n' := n6) (c' := c6) (g := w.heap.size + 1 + 1) (by omega)
    replace h := h.put (b' := (ngB (Q + 1))) (A' := A6) (n' := n6) (c' := c6) x_r
    replace h2 := h2.put (b' := (ngB (Q + 1))) (A' := A6) (n' := n6) (c' := c6) x_r
    replace z1 := z1.put (b' := (ngB (Q + 1))) (A' := A6) (n' := n6) (c' := c6) x_r
    replace z2 := z2.put (b' := (ngB (Q + 1))) (A' := A6) (n' := n6) (c' := c6) x_r
    replace z4 := z4.put (b' := (ngB (Q + 1))) (A' := A6) (n' := n6) (c' := c6) x_r
    replace z5 := z5.put (b' := (ngB (Q + 1))) (A' := A6) (n' := n6) (c' := c6) x_r
    replace hb := put_below (g := w.heap.size + 1 + 1) hb (by omega) (.bool (ngB (Q + 1))) (.slice A6 n6 c6)
    replace x_r := x_r.put (ngB (Q + 1)) A6 n6 c6
    clear q_a q_b q_r q_q q_s
    generalize (v10.setCell ⟨w.heap.size + 1 + 1, 0, none⟩ (.bool (ngB (Q + 1)))).setCell ⟨w.heap.size + 1 + 1, 1, none⟩ (.slice A6 n6 c6) = v11 at *
    have q_a := x_a.al
    have q_b := x_b.al
    have q_r := x_r.al
    have q_q := x_q.al
    have q_s := x_s.al
    refine bodyPost_ret (v := .tuple #[.agg #[.bool (ngB (Q + 1)), .slice A6 n6 c6], .bool true]) (by simp [results, Tryz.results240, go_sem, q_r]) rfl ?_
    exact ⟨_, _, _, rfl, z5, hb⟩
  ·have hr : upQ (-X) (-Y) = (-X) / (-Y) := by unfold upQ; rw [if_neg hc]
   have hsg : ¬ 0 < sgnI ((-X) % (-Y)) := mt sgnI_gt0.1 hc
   have hsb := sgnI_is ((-X) % (-Y))
   rw [hr]
   clear hr hc
   have HY := Lib.hid hY0; clear hY0 hY
   generalize hQ9 : (-X) / (-Y) = Q at *
   generalize hR9 : (-X) % (-Y) = R at *
   have HQ := Lib.hid hQ9; have HR := Lib.hid hR9; clear hQ9 hR9
   generalize hS9 : sgnI R = S at *
   have HS := Lib.hid hS9; clear hS9
   go_enter Tryz.func240, Tryz.ntmps240
   go_wp2_with fail
   obtain ⟨hb, x_a, x_b, x_r⟩ := box3 w b A n c true A2 n2 c2 false none 0 0
   generalize ((w.alloc (.cells #[.bool b, .slice A n c] 24)).alloc (.cells #[.bool true, .slice A2 n2 c2] 24)).alloc (.cells #[.bool false, .slice none 0 0] 24) = v1 at *
   obtain ⟨h, h2⟩ := mv2 hb h h2
   have q_a := x_a.al
   have q_b := x_b.al
   have q_r := x_r.al
   go_wp2_with fail
   with_reducible refine (pd_true b A A2 n c n2 c2 _).mono ?_
   rintro e v2 ⟨rfl, hb1⟩
   obtain ⟨x_a, x_b, x_r, h, h2⟩ := mv5 hb1 x_a x_b x_r h h2
   replace hb := bthen hb hb1
   clear hb1
   replace q_a := x_a.al
   replace q_b := x_b.al
   replace q_r := x_r.al
   go_wp2_with fail
   replace x_b := x_b.aside (b' := (!b)) (A' := A) (n' := n) (c' := c) (g := w.heap.size) (by omega)
   replace x_r := x_r.aside (b' := (!b)) (A' := A) (n' := n) (c' := c) (g := w.heap.size) (by omega)
   replace h := h.put (b' := (!b)) (A' := A) (n' := n) (c' := c) x_a
   replace h2 := h2.put (b' := (!b)) (A' := A) (n' := n) (c' := c) x_a
   replace hb := put_below (g := w.heap.size) hb (by omega) (.bool (!b)) (.slice A n c)
   replace x_a := x_a.put (!b) A n c
   clear q_a q_b q_r
   generalize (v2.setCell ⟨w.heap.size, 0, none⟩ (.bool (!b))).setCell ⟨w.heap.size, 1, none⟩ (.slice A n c) = v3 at *
   have q_a := x_a.al
   have q_b := x_b.al
   have q_r := x_r.al
   replace x_a := x_a.aside (b' := false) (A' := A2) (n' := n2) (c' := c2) (g := w.heap.size + 1) (by omega)
   replace x_r := x_r.aside (b' := false) (A' := A2) (n' := n2) (c' := c2) (g := w.heap.size + 1) (by omega)
   replace h := h.put (b' := false) (A' := A2) (n' := n2) (c' := c2) x_b
   replace h2 := h2.put (b' := false) (A' := A2) (n' := n2) (c' := c2) x_b
   replace hb := put_below (g := w.heap.size + 1) hb (by omega) (.bool false) (.slice A2 n2 c2)
   replace x_b := x_b.put false A2 n2 c2
   clear q_a q_b q_r
   generalize (v3.setCell ⟨w.heap.size + 1, 0, none⟩ (.bool false)).setCell ⟨w.heap.size + 1, 1, none⟩ (.slice A2 n2 c2) = v4 at *
   have q_a := x_a.al
   have q_b := x_b.al
   have q_r := x_r.al
   replace h := h.flip
   replace h2 := h2.flipt
   skip
   with_reducible refine (ZDivMod_any h h2 (by have := HY.out; omega) k hk hk2 (by omega)).mono ?_
   rintro e v5 ⟨A1, n1, c1, A3, n3, c3, rfl, z1, z2, hb1⟩
   obtain ⟨x_a, x_b, x_r, h, h2⟩ := mv5 hb1 x_a x_b x_r h h2
   replace hb := bthen hb hb1
   clear hb1
   replace q_a := x_a.al
   replace q_b := x_b.al
   replace q_r := x_r.al
   rw [HQ.out] at z1 ⊢
   rw [HR.out] at z2 ⊢
   go_wp2_with fail
   have l_a_q := x_a.lt
   have l_b_q := x_b.lt
   have l_r_q := x_r.lt
   have e_q : w.heap.size ≤ v5.heap.size := hb.size
   obtain ⟨hb1, x_q, x_s⟩ := box2 v5 (ngB Q) A1 n1 c1 (ngB R) A3 n3 c3
   obtain ⟨x_a, x_b, x_r, h, h2, z1, z2⟩ := mv7 hb1 x_a x_b x_r h h2 z1 z2
   replace hb := bthen hb hb1
   clear hb1
   replace q_a := x_a.al
   replace q_b := x_b.al
   replace q_r := x_r.al
   clear q_a q_b q_r
   generalize (v5.alloc (.cells #[.bool (ngB Q), .slice A1 n1 c1] 24)).alloc (.cells #[.bool (ngB R), .slice A3 n3 c3] 24) = v6 at *
   have q_a := x_a.al
   have q_b := x_b.al
   have q_r := x_r.al
   have q_q := x_q.al
   have q_s := x_s.al
   skip
   with_reducible refine (ZSign_any z2.zr (by omega)).mono ?_
   rintro e v7 ⟨rfl, hb1⟩
   obtain ⟨x_a, x_b, x_r, x_q, x_s, h, h2, z1, z2⟩ := mv9 hb1 x_a x_b x_r x_q x_s h h2 z1 z2
   replace hb := bthen hb hb1
   clear hb1
   replace q_a := x_a.al
   replace q_b := x_b.al
   replace q_r := x_r.al
   replace q_q := x_q.al
   replace q_s := x_s.al
   rw [HS.out]
   go_wp2
   replace x_a := x_a.aside (b' := (ngB Q)) (A' := A1) (n' := n1) (c' := c1) (g := w.heap.size + 1 + 1) (by omega)
   replace x_b := x_b.aside (b' := (ngB Q)) (A' := A1) (n' := n1) (c' := c1) (g := w.heap.size + 1 + 1) (by omega)
   replace x_q := x_q.aside (b' := (ngB Q)) (A' := A1) (n' := n1) (c' := c1) (g := w.heap.size + 1 + 1) (by omega)
   replace x_s := x_s.aside (b' := (ngB Q)) (A' := A1) (n' := n1) (c' := c1) (g := w.heap.size + 1 + 1) (by omega)
   replace h := h.put (b' := (ngB Q)) (A' := A1) (n' := n1) (c' := c1) x_r
   replace h2 := h2.put (b' := (ngB Q)) (A' := A1) (n' := n1) (c' := c1) x_r
   replace z1 := z1.put (b' := (ngB Q)) (A' := A1) (n' := n1) (c' := c1) x_r
   replace z2 := z2.put (b' := (ngB Q)) (A' := A1) (n' := n1) (c' := c1) x_r
   replace hb := put_below (g := w.heap.size + 1 + 1) hb (by omega) (.bool (ngB Q)) (.slice A1 n1 c1)
   replace x_r := x_r.put (ngB Q) A1 n1 c1
   clear q_a q_b q_r q_q q_s
   generalize (v7.setCell ⟨w.heap.size + 1 + 1, 0, none⟩ (.bool (ngB Q))).setCell ⟨w.heap.size + 1 + 1, 1, none⟩ (.slice A1 n1 c1) = v8 at *
   have q_a := x_a.al
   have q_b := x_b.al
   have q_r := x_r.al
   have q_q := x_q.al
   have q_s := x_s.al
   refine bodyPost_ret (v := .tuple #[.agg #[.bool (ngB Q), .slice A1 n1 c1], .bool true]) (by simp [results, Tryz.results240, go_sem, q_r]) rfl ?_
   exact ⟨_, _, _, rfl, z1.wide (by omega), hb⟩
end
end Go.Proofs.YtdonaominffpnaaGreatDoor
