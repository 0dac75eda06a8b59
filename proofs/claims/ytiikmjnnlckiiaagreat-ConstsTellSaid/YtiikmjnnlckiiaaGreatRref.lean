/-
 the document's answers for rows: down, up.
-/
import Derived.Test.YtiikmjnnlckiiaaGreatPk
import Derived.Deep.DeepCutAuto
namespace Go.Proofs.YtiikmjnnlckiiaaGreat
open Go.RowKit
set_option linter.unusedVariables false

theorem sc_natR {n : Int} (h0 : 0 ≤ n) (h1 : n ≤ 8192) : sc n = n.toNat := by unfold sc; omega
theorem up_div {X d : Int} (hd : 1 ≤ d) : upI X d = -(-X / d) := by rw [up_fl (by omega)]; unfold fqI; rw [if_neg (by omega)]
set_option maxRecDepth 100000 in
set_option maxHeartbeats 8000000 in
theorem Rdown_any {b b2 : Bool} {A A2 : Option Addr} {n c n2 c2 : Nat} {X Y : Int} {j j2 : Nat} {w : World} (h : Zr w b A n c X j) (h2 : Zr w b2 A2 n2 c2 Y j2) (d q : Int) (hd : 1 ≤ d ∧ d ≤ 10000000) (hq : 0 ≤ q ∧ q ≤ 2400) (hj : j + j2 ≤ 80) :
  Calls Tryz.prog 37 #[.agg #[.bool b, .slice A n c], .agg #[.bool b2, .slice A2 n2 c2], .int .i64 d, .int .i64 q] w (OutZ w (X * Y / 2 ^ q.toNat / d) 230) := by
 have hsc : sc q = q.toNat := sc_natR hq.1 (by omega)
 obtain ⟨E, hE⟩ : ∃ E, X * Y / 2 ^ q.toNat = E := ⟨_, rfl⟩
 rw [hE]
 have HE : Hid (X * Y / 2 ^ sc q = E) := Lib.hid (by rw [hsc]; exact hE); clear hE hsc
 obtain ⟨D, hD⟩ : ∃ D, E / d = D := ⟨_, rfl⟩
 rw [hD]
 have HD := Lib.hid hD; clear hD
 have HDV := Lib.hid hd.1
 rcases (show d = 1 ∨ (1 < d ∧ ¬ d = 1) by omega) with hd1 | ⟨hd1, hd2⟩
 ·have HDE : Hid (D = E) := Lib.hid (by have := HD.out; rw [hd1] at this; simpa using this.symm)
  subst hd1
  go_enter Tryz.func37, Tryz.ntmps37
  go_wp2_with fail
  have x_a : Bx (w.alloc (.cells #[.bool b, .slice A n c] 25)) (w.heap.size) b A n c := by have := Bx.new w b A n c; simpa using this
  replace x_a := x_a.alloc (.cells #[.bool b2, .slice A2 n2 c2] 25)
  have x_d : Bx ((w.alloc (.cells #[.bool b, .slice A n c] 25)).alloc (.cells #[.bool b2, .slice A2 n2 c2] 25)) (w.heap.size + 1) b2 A2 n2 c2 := by have := Bx.new (w.alloc (.cells #[.bool b, .slice A n c] 25)) b2 A2 n2 c2; simpa using this
  replace x_a := x_a.alloc (.cells #[.bool false, .slice none 0 0] 25)
  replace x_d := x_d.alloc (.cells #[.bool false, .slice none 0 0] 25)
  have x_r : Bx (((w.alloc (.cells #[.bool b, .slice A n c] 25)).alloc (.cells #[.bool b2, .slice A2 n2 c2] 25)).alloc (.cells #[.bool false, .slice none 0 0] 25)) (w.heap.size + 1 + 1) false none 0 0 := by have := Bx.new ((w.alloc (.cells #[.bool b, .slice A n c] 25)).alloc (.cells #[.bool b2, .slice A2 n2 c2] 25)) false none 0 0; simpa using this
  have hb : Below w.heap.size w (((w.alloc (.cells #[.bool b, .slice A n c] 25)).alloc (.cells #[.bool b2, .slice A2 n2 c2] 25)).alloc (.cells #[.bool false, .slice none 0 0] 25)) := (Below.alloc (Below.alloc (Below.alloc (Below.refl w.heap.size w) (by simp) (.cells #[.bool b, .slice A n c] 25)) (by simp) (.cells #[.bool b2, .slice A2 n2 c2] 25)) (by simp; omega) (.cells #[.bool false, .slice none 0 0] 25))
  generalize ((w.alloc (.cells #[.bool b, .slice A n c] 25)).alloc (.cells #[.bool b2, .slice A2 n2 c2] 25)).alloc (.cells #[.bool false, .slice none 0 0] 25) = v1 at *
  obtain ⟨h, h2⟩ := mv2 hb h h2
  have q_a := x_a.al
  have q_d := x_d.al
  have q_r := x_r.al
  go_wp2_with fail
  with_reducible refine (RMulZ_any h h2 80 (by omega) (by omega)).mono ?_
  rintro e v2 ⟨A5, n5, c5, rfl, z5, hb1⟩
  obtain ⟨x_a, x_d, x_r, h, h2⟩ := mv5 hb1 x_a x_d x_r h h2
  replace hb := bthen hb hb1
  clear hb1
  replace q_a := x_a.al
  replace q_d := x_d.al
  replace q_r := x_r.al
  go_wp2_with fail
  with_reducible refine (RShrZ_any z5.zr q 215 (by omega) (by omega)).mono ?_
  rintro e v3 ⟨A8, n8, c8, rfl, z8, hb1⟩
  obtain ⟨x_a, x_d, x_r, h, h2, z5⟩ := mv6 hb1 x_a x_d x_r h h2 z5
  replace hb := bthen hb hb1
  clear hb1
  replace q_a := x_a.al
  replace q_d := x_d.al
  replace q_r := x_r.al
  rw [HE.out] at z8 ⊢
  go_upto_region 2 with fail
  have hb1 := below_alloc v3 (.cells #[.bool (ngB E), .slice A8 n8 c8] 25)
  have l_a_x := x_a.lt
  have l_d_x := x_d.lt
  have l_r_x := x_r.lt
  have x_x := Bx.new v3 (ngB E) A8 n8 c8
  have e_x : w.heap.size ≤ v3.heap.size := hb.size
  clear q_a q_d q_r
  obtain ⟨x_a, x_d, x_r, h, h2, z5, z8⟩ := mv7 hb1 x_a x_d x_r h h2 z5 z8
  replace hb := bthen hb hb1
  clear hb1
  generalize v3.alloc (.cells #[.bool (ngB E), .slice A8 n8 c8] 25) = v4 at *
  have q_a := x_a.al
  have q_d := x_d.al
  have q_r := x_r.al
  have q_x := x_x.al
  go_wp2
  replace x_a := x_a.aside (b' := (ngB E)) (A' := A8) (n' := n8) (c' := c8) (g := w.heap.size + 1 + 1) (by omega)
  replace x_d := x_d.aside (b' := (ngB E)) (A' := A8) (n' := n8) (c' := c8) (g := w.heap.size + 1 + 1) (by omega)
  replace x_x := x_x.aside (b' := (ngB E)) (A' := A8) (n' := n8) (c' := c8) (g := w.heap.size + 1 + 1) (by omega)
  replace h := h.put (b' := (ngB E)) (A' := A8) (n' := n8) (c' := c8) x_r
  replace h2 := h2.put (b' := (ngB E)) (A' := A8) (n' := n8) (c' := c8) x_r
  replace z5 := z5.put (b' := (ngB E)) (A' := A8) (n' := n8) (c' := c8) x_r
  replace z8 := z8.put (b' := (ngB E)) (A' := A8) (n' := n8) (c' := c8) x_r
  replace hb := put_below (g := w.heap.size + 1 + 1) hb (by omega) (.bool (ngB E)) (.slice A8 n8 c8)
  replace x_r := x_r.put (ngB E) A8 n8 c8
  clear q_a q_d q_r q_x
  generalize (v4.setCell ⟨w.heap.size + 1 + 1, 0, none⟩ (.bool (ngB E))).setCell ⟨w.heap.size + 1 + 1, 1, none⟩ (.slice A8 n8 c8) = v5 at *
  have q_a := x_a.al
  have q_d := x_d.al
  have q_r := x_r.al
  have q_x := x_x.al
  skip
  refine bodyPost_ret (v := .agg #[.bool (ngB E), .slice A8 n8 c8]) (by simp [results, Tryz.results37, go_sem, q_r]) rfl ?_
  exact ⟨_, _, _, by rw [HDE.out], by rw [HDE.out]; exact ⟨z8.1, by have := z8.2; omega⟩, hb⟩
 ·have hdb : (d == 1) = false := by simpa using hd2
  go_enter Tryz.func37, Tryz.ntmps37
  go_wp2_with fail
  have x_a : Bx (w.alloc (.cells #[.bool b, .slice A n c] 25)) (w.heap.size) b A n c := by have := Bx.new w b A n c; simpa using this
  replace x_a := x_a.alloc (.cells #[.bool b2, .slice A2 n2 c2] 25)
  have x_d : Bx ((w.alloc (.cells #[.bool b, .slice A n c] 25)).alloc (.cells #[.bool b2, .slice A2 n2 c2] 25)) (w.heap.size + 1) b2 A2 n2 c2 := by have := Bx.new (w.alloc (.cells #[.bool b, .slice A n c] 25)) b2 A2 n2 c2; simpa using this
  replace x_a := x_a.alloc (.cells #[.bool false, .slice none 0 0] 25)
  replace x_d := x_d.alloc (.cells #[.bool false, .slice none 0 0] 25)
  have x_r : Bx (((w.alloc (.cells #[.bool b, .slice A n c] 25)).alloc (.cells #[.bool b2, .slice A2 n2 c2] 25)).alloc (.cells #[.bool false, .slice none 0 0] 25)) (w.heap.size + 1 + 1) false none 0 0 := by have := Bx.new ((w.alloc (.cells #[.bool b, .slice A n c] 25)).alloc (.cells #[.bool b2, .slice A2 n2 c2] 25)) false none 0 0; simpa using this
  have hb : Below w.heap.size w (((w.alloc (.cells #[.bool b, .slice A n c] 25)).alloc (.cells #[.bool b2, .slice A2 n2 c2] 25)).alloc (.cells #[.bool false, .slice none 0 0] 25)) := (Below.alloc (Below.alloc (Below.alloc (Below.refl w.heap.size w) (by simp) (.cells #[.bool b, .slice A n c] 25)) (by simp) (.cells #[.bool b2, .slice A2 n2 c2] 25)) (by simp; omega) (.cells #[.bool false, .slice none 0 0] 25))
  generalize ((w.alloc (.cells #[.bool b, .slice A n c] 25)).alloc (.cells #[.bool b2, .slice A2 n2 c2] 25)).alloc (.cells #[.bool false, .slice none 0 0] 25) = v1 at *
  obtain ⟨h, h2⟩ := mv2 hb h h2
  have q_a := x_a.al
  have q_d := x_d.al
  have q_r := x_r.al
  go_wp2_with fail
  with_reducible refine (RMulZ_any h h2 80 (by omega) (by omega)).mono ?_
  rintro e v2 ⟨A5, n5, c5, rfl, z5, hb1⟩
  obtain ⟨x_a, x_d, x_r, h, h2⟩ := mv5 hb1 x_a x_d x_r h h2
  replace hb := bthen hb hb1
  clear hb1
  replace q_a := x_a.al
  replace q_d := x_d.al
  replace q_r := x_r.al
  go_wp2_with fail
  with_reducible refine (RShrZ_any z5.zr q 215 (by omega) (by omega)).mono ?_
  rintro e v3 ⟨A8, n8, c8, rfl, z8, hb1⟩
  obtain ⟨x_a, x_d, x_r, h, h2, z5⟩ := mv6 hb1 x_a x_d x_r h h2 z5
  replace hb := bthen hb hb1
  clear hb1
  replace q_a := x_a.al
  replace q_d := x_d.al
  replace q_r := x_r.al
  rw [HE.out] at z8 ⊢
  go_upto_region 2 with fail
  have hb1 := below_alloc v3 (.cells #[.bool (ngB E), .slice A8 n8 c8] 25)
  have l_a_x := x_a.lt
  have l_d_x := x_d.lt
  have l_r_x := x_r.lt
  have x_x := Bx.new v3 (ngB E) A8 n8 c8
  have e_x : w.heap.size ≤ v3.heap.size := hb.size
  clear q_a q_d q_r
  obtain ⟨x_a, x_d, x_r, h, h2, z5, z8⟩ := mv7 hb1 x_a x_d x_r h h2 z5 z8
  replace hb := bthen hb hb1
  clear hb1
  generalize v3.alloc (.cells #[.bool (ngB E), .slice A8 n8 c8] 25) = v4 at *
  have q_a := x_a.al
  have q_d := x_d.al
  have q_r := x_r.al
  have q_x := x_x.al
  go_upto_region 4 with fail
  clear q_a
  clear q_d
  go_region_with ((first | (go_at_call 16; (with_reducible refine (ROf_any d (by omega) (by omega)).mono ?_); rintro e v5 ⟨A9, n9, c9, rfl, z9, hb1⟩; replace hb1 := undrew hb1; obtain ⟨x_a, x_d, x_r, x_x, h, h2, z5, z8⟩ := mv8 hb1 x_a x_d x_r x_x h h2 z5 z8; replace hb := bthen hb hb1; clear hb1; replace q_r := x_r.al; replace q_x := x_x.al) | (go_at_call 31; (with_reducible refine (RDivModZ_any z8.zr z9.zr (by have := HDV.out; omega) 216 (by omega) (by omega) (by omega)).mono ?_); rintro e v6 ⟨A10, n10, c10, A11, n11, c11, rfl, z10, z11, hb1⟩; obtain ⟨x_a, x_d, x_r, x_x, h, h2, z5, z8, z9⟩ := mv9 hb1 x_a x_d x_r x_x h h2 z5 z8 z9; replace hb := bthen hb hb1; clear hb1; replace q_r := x_r.al; replace q_x := x_x.al; rw [HD.out] at z10 ⊢)))
  all_goals
   replace x_a := x_a.aside (b' := (ngB D)) (A' := A10) (n' := n10) (c' := c10) (g := v3.heap.size) (by omega)
   replace x_d := x_d.aside (b' := (ngB D)) (A' := A10) (n' := n10) (c' := c10) (g := v3.heap.size) (by omega)
   replace x_r := x_r.aside (b' := (ngB D)) (A' := A10) (n' := n10) (c' := c10) (g := v3.heap.size) (by omega)
   replace h := h.put (b' := (ngB D)) (A' := A10) (n' := n10) (c' := c10) x_x
   replace h2 := h2.put (b' := (ngB D)) (A' := A10) (n' := n10) (c' := c10) x_x
   replace z5 := z5.put (b' := (ngB D)) (A' := A10) (n' := n10) (c' := c10) x_x
   replace z8 := z8.put (b' := (ngB D)) (A' := A10) (n' := n10) (c' := c10) x_x
   replace z9 := z9.put (b' := (ngB D)) (A' := A10) (n' := n10) (c' := c10) x_x
   replace z10 := z10.put (b' := (ngB D)) (A' := A10) (n' := n10) (c' := c10) x_x
   replace z11 := z11.put (b' := (ngB D)) (A' := A10) (n' := n10) (c' := c10) x_x
   replace hb := put_below (g := v3.heap.size) hb (by omega) (.bool (ngB D)) (.slice A10 n10 c10)
   replace x_x := x_x.put (ngB D) A10 n10 c10
   clear q_r q_x
   generalize (v6.setCell ⟨v3.heap.size, 0, none⟩ (.bool (ngB D))).setCell ⟨v3.heap.size, 1, none⟩ (.slice A10 n10 c10) = v7 at *
   have q_r := x_r.al
   have q_x := x_x.al
   go_wp2
   replace x_a := x_a.aside (b' := (ngB D)) (A' := A10) (n' := n10) (c' := c10) (g := w.heap.size + 1 + 1) (by omega)
   replace x_d := x_d.aside (b' := (ngB D)) (A' := A10) (n' := n10) (c' := c10) (g := w.heap.size + 1 + 1) (by omega)
   replace x_x := x_x.aside (b' := (ngB D)) (A' := A10) (n' := n10) (c' := c10) (g := w.heap.size + 1 + 1) (by omega)
   replace h := h.put (b' := (ngB D)) (A' := A10) (n' := n10) (c' := c10) x_r
   replace h2 := h2.put (b' := (ngB D)) (A' := A10) (n' := n10) (c' := c10) x_r
   replace z5 := z5.put (b' := (ngB D)) (A' := A10) (n' := n10) (c' := c10) x_r
   replace z8 := z8.put (b' := (ngB D)) (A' := A10) (n' := n10) (c' := c10) x_r
   replace z9 := z9.put (b' := (ngB D)) (A' := A10) (n' := n10) (c' := c10) x_r
   replace z10 := z10.put (b' := (ngB D)) (A' := A10) (n' := n10) (c' := c10) x_r
   replace z11 := z11.put (b' := (ngB D)) (A' := A10) (n' := n10) (c' := c10) x_r
   replace hb := put_below (g := w.heap.size + 1 + 1) hb (by omega) (.bool (ngB D)) (.slice A10 n10 c10)
   replace x_r := x_r.put (ngB D) A10 n10 c10
   clear q_r q_x
   generalize (v7.setCell ⟨w.heap.size + 1 + 1, 0, none⟩ (.bool (ngB D))).setCell ⟨w.heap.size + 1 + 1, 1, none⟩ (.slice A10 n10 c10) = v8 at *
   have q_r := x_r.al
   have q_x := x_x.al
   skip
   refine bodyPost_ret (v := .agg #[.bool (ngB D), .slice A10 n10 c10]) (by simp [results, Tryz.results37, go_sem, q_r]) rfl ?_
   exact ⟨_, _, _, rfl, ⟨z10.1, by have := z10.2; omega⟩, hb⟩

set_option maxRecDepth 100000 in
set_option maxHeartbeats 8000000 in
theorem Rup_any {b b2 : Bool} {A A2 : Option Addr} {n c n2 c2 : Nat} {X Y : Int} {j j2 : Nat} {w : World} (h : Zr w b A n c X j) (h2 : Zr w b2 A2 n2 c2 Y j2) (d q : Int) (hd : 1 ≤ d ∧ d ≤ 10000000) (hq : 0 ≤ q ∧ q ≤ 2400) (hj : j + j2 ≤ 80) :
  Calls Tryz.prog 38 #[.agg #[.bool b, .slice A n c], .agg #[.bool b2, .slice A2 n2 c2], .int .i64 d, .int .i64 q] w (OutZ w (-(-(-(-(X * Y) / 2 ^ q.toNat)) / d)) 230) := by
 have hsc : sc q = q.toNat := sc_natR hq.1 (by omega)
 obtain ⟨E, hE⟩ : ∃ E, -(-(X * Y) / 2 ^ q.toNat) = E := ⟨_, rfl⟩
 rw [hE]
 have HE : Hid (-(-(X * Y) / 2 ^ sc q) = E) := Lib.hid (by rw [hsc]; exact hE); clear hE hsc
 obtain ⟨D, hD⟩ : ∃ D, -(-E / d) = D := ⟨_, rfl⟩
 rw [hD]
 have HD := Lib.hid hD; clear hD
 have HDV := Lib.hid hd.1
 have HU := Lib.hid (up_div (X := E) hd.1)
 rcases (show d = 1 ∨ (1 < d ∧ ¬ d = 1) by omega) with hd1 | ⟨hd1, hd2⟩
 ·have HDE : Hid (D = E) := Lib.hid (by have := HD.out; rw [hd1] at this; simpa using this.symm)
  subst hd1
  go_enter Tryz.func38, Tryz.ntmps38
  go_wp2_with fail
  have x_a : Bx (w.alloc (.cells #[.bool b, .slice A n c] 25)) (w.heap.size) b A n c := by have := Bx.new w b A n c; simpa using this
  replace x_a := x_a.alloc (.cells #[.bool b2, .slice A2 n2 c2] 25)
  have x_d : Bx ((w.alloc (.cells #[.bool b, .slice A n c] 25)).alloc (.cells #[.bool b2, .slice A2 n2 c2] 25)) (w.heap.size + 1) b2 A2 n2 c2 := by have := Bx.new (w.alloc (.cells #[.bool b, .slice A n c] 25)) b2 A2 n2 c2; simpa using this
  replace x_a := x_a.alloc (.cells #[.bool false, .slice none 0 0] 25)
  replace x_d := x_d.alloc (.cells #[.bool false, .slice none 0 0] 25)
  have x_r : Bx (((w.alloc (.cells #[.bool b, .slice A n c] 25)).alloc (.cells #[.bool b2, .slice A2 n2 c2] 25)).alloc (.cells #[.bool false, .slice none 0 0] 25)) (w.heap.size + 1 + 1) false none 0 0 := by have := Bx.new ((w.alloc (.cells #[.bool b, .slice A n c] 25)).alloc (.cells #[.bool b2, .slice A2 n2 c2] 25)) false none 0 0; simpa using this
  have hb : Below w.heap.size w (((w.alloc (.cells #[.bool b, .slice A n c] 25)).alloc (.cells #[.bool b2, .slice A2 n2 c2] 25)).alloc (.cells #[.bool false, .slice none 0 0] 25)) := (Below.alloc (Below.alloc (Below.alloc (Below.refl w.heap.size w) (by simp) (.cells #[.bool b, .slice A n c] 25)) (by simp) (.cells #[.bool b2, .slice A2 n2 c2] 25)) (by simp; omega) (.cells #[.bool false, .slice none 0 0] 25))
  generalize ((w.alloc (.cells #[.bool b, .slice A n c] 25)).alloc (.cells #[.bool b2, .slice A2 n2 c2] 25)).alloc (.cells #[.bool false, .slice none 0 0] 25) = v1 at *
  obtain ⟨h, h2⟩ := mv2 hb h h2
  have q_a := x_a.al
  have q_d := x_d.al
  have q_r := x_r.al
  go_wp2_with fail
  with_reducible refine (RMulZ_any h h2 80 (by omega) (by omega)).mono ?_
  rintro e v2 ⟨A5, n5, c5, rfl, z5, hb1⟩
  obtain ⟨x_a, x_d, x_r, h, h2⟩ := mv5 hb1 x_a x_d x_r h h2
  replace hb := bthen hb hb1
  clear hb1
  replace q_a := x_a.al
  replace q_d := x_d.al
  replace q_r := x_r.al
  go_wp2_with fail
  with_reducible refine (RNegZ_any z5.zr 80 (by omega) (by omega)).mono ?_
  rintro e v3 ⟨A6, n6, c6, rfl, z6, hb1⟩
  obtain ⟨x_a, x_d, x_r, h, h2, z5⟩ := mv6 hb1 x_a x_d x_r h h2 z5
  replace hb := bthen hb hb1
  clear hb1
  replace q_a := x_a.al
  replace q_d := x_d.al
  replace q_r := x_r.al
  go_wp2_with fail
  with_reducible refine (RShrZ_any z6.zr q 215 (by omega) (by omega)).mono ?_
  rintro e v4 ⟨A7, n7, c7, rfl, z7, hb1⟩
  obtain ⟨x_a, x_d, x_r, h, h2, z5, z6⟩ := mv7 hb1 x_a x_d x_r h h2 z5 z6
  replace hb := bthen hb hb1
  clear hb1
  replace q_a := x_a.al
  replace q_d := x_d.al
  replace q_r := x_r.al
  go_wp2_with fail
  with_reducible refine (RNegZ_any z7.zr 215 (by omega) (by omega)).mono ?_
  rintro e v5 ⟨A8, n8, c8, rfl, z8, hb1⟩
  obtain ⟨x_a, x_d, x_r, h, h2, z5, z6, z7⟩ := mv8 hb1 x_a x_d x_r h h2 z5 z6 z7
  replace hb := bthen hb hb1
  clear hb1
  replace q_a := x_a.al
  replace q_d := x_d.al
  replace q_r := x_r.al
  rw [HE.out] at z8 ⊢
  go_upto_region 2 with fail
  have hb1 := below_alloc v5 (.cells #[.bool (ngB E), .slice A8 n8 c8] 25)
  have l_a_x := x_a.lt
  have l_d_x := x_d.lt
  have l_r_x := x_r.lt
  have x_x := Bx.new v5 (ngB E) A8 n8 c8
  have e_x : w.heap.size ≤ v5.heap.size := hb.size
  clear q_a q_d q_r
  obtain ⟨x_a, x_d, x_r, h, h2, z5, z6, z7, z8⟩ := mv9 hb1 x_a x_d x_r h h2 z5 z6 z7 z8
  replace hb := bthen hb hb1
  clear hb1
  generalize v5.alloc (.cells #[.bool (ngB E), .slice A8 n8 c8] 25) = v6 at *
  have q_a := x_a.al
  have q_d := x_d.al
  have q_r := x_r.al
  have q_x := x_x.al
  go_wp2
  replace x_a := x_a.aside (b' := (ngB E)) (A' := A8) (n' := n8) (c' := c8) (g := w.heap.size + 1 + 1) (by omega)
  replace x_d := x_d.aside (b' := (ngB E)) (A' := A8) (n' := n8) (c' := c8) (g := w.heap.size + 1 + 1) (by omega)
  replace x_x := x_x.aside (b' := (ngB E)) (A' := A8) (n' := n8) (c' := c8) (g := w.heap.size + 1 + 1) (by omega)
  replace h := h.put (b' := (ngB E)) (A' := A8) (n' := n8) (c' := c8) x_r
  replace h2 := h2.put (b' := (ngB E)) (A' := A8) (n' := n8) (c' := c8) x_r
  replace z5 := z5.put (b' := (ngB E)) (A' := A8) (n' := n8) (c' := c8) x_r
  replace z6 := z6.put (b' := (ngB E)) (A' := A8) (n' := n8) (c' := c8) x_r
  replace z7 := z7.put (b' := (ngB E)) (A' := A8) (n' := n8) (c' := c8) x_r
  replace z8 := z8.put (b' := (ngB E)) (A' := A8) (n' := n8) (c' := c8) x_r
  replace hb := put_below (g := w.heap.size + 1 + 1) hb (by omega) (.bool (ngB E)) (.slice A8 n8 c8)
  replace x_r := x_r.put (ngB E) A8 n8 c8
  clear q_a q_d q_r q_x
  generalize (v6.setCell ⟨w.heap.size + 1 + 1, 0, none⟩ (.bool (ngB E))).setCell ⟨w.heap.size + 1 + 1, 1, none⟩ (.slice A8 n8 c8) = v7 at *
  have q_a := x_a.al
  have q_d := x_d.al
  have q_r := x_r.al
  have q_x := x_x.al
  skip
  refine bodyPost_ret (v := .agg #[.bool (ngB E), .slice A8 n8 c8]) (by simp [results, Tryz.results38, go_sem, q_r]) rfl ?_
  exact ⟨_, _, _, by rw [HDE.out], by rw [HDE.out]; exact ⟨z8.1, by have := z8.2; omega⟩, hb⟩
 ·have hdb : (d == 1) = false := by simpa using hd2
  go_enter Tryz.func38, Tryz.ntmps38
  go_wp2_with fail
  have x_a : Bx (w.alloc (.cells #[.bool b, .slice A n c] 25)) (w.heap.size) b A n c := by have := Bx.new w b A n c; simpa using this
  replace x_a := x_a.alloc (.cells #[.bool b2, .slice A2 n2 c2] 25)
  have x_d : Bx ((w.alloc (.cells #[.bool b, .slice A n c] 25)).alloc (.cells #[.bool b2, .slice A2 n2 c2] 25)) (w.heap.size + 1) b2 A2 n2 c2 := by have := Bx.new (w.alloc (.cells #[.bool b, .slice A n c] 25)) b2 A2 n2 c2; simpa using this
  replace x_a := x_a.alloc (.cells #[.bool false, .slice none 0 0] 25)
  replace x_d := x_d.alloc (.cells #[.bool false, .slice none 0 0] 25)
  have x_r : Bx (((w.alloc (.cells #[.bool b, .slice A n c] 25)).alloc (.cells #[.bool b2, .slice A2 n2 c2] 25)).alloc (.cells #[.bool false, .slice none 0 0] 25)) (w.heap.size + 1 + 1) false none 0 0 := by have := Bx.new ((w.alloc (.cells #[.bool b, .slice A n c] 25)).alloc (.cells #[.bool b2, .slice A2 n2 c2] 25)) false none 0 0; simpa using this
  have hb : Below w.heap.size w (((w.alloc (.cells #[.bool b, .slice A n c] 25)).alloc (.cells #[.bool b2, .slice A2 n2 c2] 25)).alloc (.cells #[.bool false, .slice none 0 0] 25)) := (Below.alloc (Below.alloc (Below.alloc (Below.refl w.heap.size w) (by simp) (.cells #[.bool b, .slice A n c] 25)) (by simp) (.cells #[.bool b2, .slice A2 n2 c2] 25)) (by simp; omega) (.cells #[.bool false, .slice none 0 0] 25))
  generalize ((w.alloc (.cells #[.bool b, .slice A n c] 25)).alloc (.cells #[.bool b2, .slice A2 n2 c2] 25)).alloc (.cells #[.bool false, .slice none 0 0] 25) = v1 at *
  obtain ⟨h, h2⟩ := mv2 hb h h2
  have q_a := x_a.al
  have q_d := x_d.al
  have q_r := x_r.al
  go_wp2_with fail
  with_reducible refine (RMulZ_any h h2 80 (by omega) (by omega)).mono ?_
  rintro e v2 ⟨A5, n5, c5, rfl, z5, hb1⟩
  obtain ⟨x_a, x_d, x_r, h, h2⟩ := mv5 hb1 x_a x_d x_r h h2
  replace hb := bthen hb hb1
  clear hb1
  replace q_a := x_a.al
  replace q_d := x_d.al
  replace q_r := x_r.al
  go_wp2_with fail
  with_reducible refine (RNegZ_any z5.zr 80 (by omega) (by omega)).mono ?_
  rintro e v3 ⟨A6, n6, c6, rfl, z6, hb1⟩
  obtain ⟨x_a, x_d, x_r, h, h2, z5⟩ := mv6 hb1 x_a x_d x_r h h2 z5
  replace hb := bthen hb hb1
  clear hb1
  replace q_a := x_a.al
  replace q_d := x_d.al
  replace q_r := x_r.al
  go_wp2_with fail
  with_reducible refine (RShrZ_any z6.zr q 215 (by omega) (by omega)).mono ?_
  rintro e v4 ⟨A7, n7, c7, rfl, z7, hb1⟩
  obtain ⟨x_a, x_d, x_r, h, h2, z5, z6⟩ := mv7 hb1 x_a x_d x_r h h2 z5 z6
  replace hb := bthen hb hb1
  clear hb1
  replace q_a := x_a.al
  replace q_d := x_d.al
  replace q_r := x_r.al
  go_wp2_with fail
  with_reducible refine (RNegZ_any z7.zr 215 (by omega) (by omega)).mono ?_
  rintro e v5 ⟨A8, n8, c8, rfl, z8, hb1⟩
  obtain ⟨x_a, x_d, x_r, h, h2, z5, z6, z7⟩ := mv8 hb1 x_a x_d x_r h h2 z5 z6 z7
  replace hb := bthen hb hb1
  clear hb1
  replace q_a := x_a.al
  replace q_d := x_d.al
  replace q_r := x_r.al
  rw [HE.out] at z8 ⊢
  go_upto_region 2 with fail
  have hb1 := below_alloc v5 (.cells #[.bool (ngB E), .slice A8 n8 c8] 25)
  have l_a_x := x_a.lt
  have l_d_x := x_d.lt
  have l_r_x := x_r.lt
  have x_x := Bx.new v5 (ngB E) A8 n8 c8
  have e_x : w.heap.size ≤ v5.heap.size := hb.size
  clear q_a q_d q_r
  obtain ⟨x_a, x_d, x_r, h, h2, z5, z6, z7, z8⟩ := mv9 hb1 x_a x_d x_r h h2 z5 z6 z7 z8
  replace hb := bthen hb hb1
  clear hb1
  generalize v5.alloc (.cells #[.bool (ngB E), .slice A8 n8 c8] 25) = v6 at *
  have q_a := x_a.al
  have q_d := x_d.al
  have q_r := x_r.al
  have q_x := x_x.al
  go_upto_region 4 with fail
  clear q_a
  clear q_d
  go_region_with ((first | (go_at_call 16; (with_reducible refine (ROf_any d (by omega) (by omega)).mono ?_); rintro e v7 ⟨A9, n9, c9, rfl, z9, hb1⟩; replace hb1 := undrew hb1; obtain ⟨x_a, x_d, x_r, x_x, h, h2, z5, z6, z7⟩ := mv9 hb1 x_a x_d x_r x_x h h2 z5 z6 z7; replace z8 := z8.keep hb1; replace hb := bthen hb hb1; clear hb1; replace q_r := x_r.al; replace q_x := x_x.al) | (go_at_call 79; (with_reducible refine (RUpZ_any z8.zr z9.zr (by have := HDV.out; omega) 216 (by omega) (by omega) (by omega)).mono ?_); rintro e v8 ⟨A10, n10, c10, rfl, z10, hb1⟩; obtain ⟨x_a, x_d, x_r, x_x, h, h2, z5, z6, z7⟩ := mv9 hb1 x_a x_d x_r x_x h h2 z5 z6 z7; obtain ⟨z8, z9⟩ := mv2 hb1 z8 z9; replace hb := bthen hb hb1; clear hb1; replace q_r := x_r.al; replace q_x := x_x.al; rw [HU.out, HD.out] at z10 ⊢)))
  all_goals
   replace x_a := x_a.aside (b' := (ngB D)) (A' := A10) (n' := n10) (c' := c10) (g := v5.heap.size) (by omega)
   replace x_d := x_d.aside (b' := (ngB D)) (A' := A10) (n' := n10) (c' := c10) (g := v5.heap.size) (by omega)
   replace x_r := x_r.aside (b' := (ngB D)) (A' := A10) (n' := n10) (c' := c10) (g := v5.heap.size) (by omega)
   replace h := h.put (b' := (ngB D)) (A' := A10) (n' := n10) (c' := c10) x_x
   replace h2 := h2.put (b' := (ngB D)) (A' := A10) (n' := n10) (c' := c10) x_x
   replace z5 := z5.put (b' := (ngB D)) (A' := A10) (n' := n10) (c' := c10) x_x
   replace z6 := z6.put (b' := (ngB D)) (A' := A10) (n' := n10) (c' := c10) x_x
   replace z7 := z7.put (b' := (ngB D)) (A' := A10) (n' := n10) (c' := c10) x_x
   replace z8 := z8.put (b' := (ngB D)) (A' := A10) (n' := n10) (c' := c10) x_x
   replace z9 := z9.put (b' := (ngB D)) (A' := A10) (n' := n10) (c' := c10) x_x
   replace z10 := z10.put (b' := (ngB D)) (A' := A10) (n' := n10) (c' := c10) x_x
   replace hb := put_below (g := v5.heap.size) hb (by omega) (.bool (ngB D)) (.slice A10 n10 c10)
   replace x_x := x_x.put (ngB D) A10 n10 c10
   clear q_r q_x
   generalize (v8.setCell ⟨v5.heap.size, 0, none⟩ (.bool (ngB D))).setCell ⟨v5.heap.size, 1, none⟩ (.slice A10 n10 c10) = v9 at *
   have q_r := x_r.al
   have q_x := x_x.al
   go_wp2
   replace x_a := x_a.aside (b' := (ngB D)) (A' := A10) (n' := n10) (c' := c10) (g := w.heap.size + 1 + 1) (by omega)
   replace x_d := x_d.aside (b' := (ngB D)) (A' := A10) (n' := n10) (c' := c10) (g := w.heap.size + 1 + 1) (by omega)
   replace x_x := x_x.aside (b' := (ngB D)) (A' := A10) (n' := n10) (c' := c10) (g := w.heap.size + 1 + 1) (by omega)
   replace h := h.put (b' := (ngB D)) (A' := A10) (n' := n10) (c' := c10) x_r
   replace h2 := h2.put (b' := (ngB D)) (A' := A10) (n' := n10) (c' := c10) x_r
   replace z5 := z5.put (b' := (ngB D)) (A' := A10) (n' := n10) (c' := c10) x_r
   replace z6 := z6.put (b' := (ngB D)) (A' := A10) (n' := n10) (c' := c10) x_r
   replace z7 := z7.put (b' := (ngB D)) (A' := A10) (n' := n10) (c' := c10) x_r
   replace z8 := z8.put (b' := (ngB D)) (A' := A10) (n' := n10) (c' := c10) x_r
   replace z9 := z9.put (b' := (ngB D)) (A' := A10) (n' := n10) (c' := c10) x_r
   replace z10 := z10.put (b' := (ngB D)) (A' := A10) (n' := n10) (c' := c10) x_r
   replace hb := put_below (g := w.heap.size + 1 + 1) hb (by omega) (.bool (ngB D)) (.slice A10 n10 c10)
   replace x_r := x_r.put (ngB D) A10 n10 c10
   clear q_r q_x
   generalize (v9.setCell ⟨w.heap.size + 1 + 1, 0, none⟩ (.bool (ngB D))).setCell ⟨w.heap.size + 1 + 1, 1, none⟩ (.slice A10 n10 c10) = v10 at *
   have q_r := x_r.al
   have q_x := x_x.al
   skip
   refine bodyPost_ret (v := .agg #[.bool (ngB D), .slice A10 n10 c10]) (by simp [results, Tryz.results38, go_sem, q_r]) rfl ?_
   exact ⟨_, _, _, rfl, ⟨z10.1, by have := z10.2; omega⟩, hb⟩

end Go.Proofs.YtiikmjnnlckiiaaGreat
