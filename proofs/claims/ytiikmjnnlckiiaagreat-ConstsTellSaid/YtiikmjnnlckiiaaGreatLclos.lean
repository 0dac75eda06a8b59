/-
 ball: divide, and the closures of Add, Sub, Mul, Div.
-/
import Derived.Test.YtiikmjnnlckiiaaGreatLpoint
namespace Go.Proofs.YtiikmjnnlckiiaaGreat
open Go.RowKit
set_option linter.unusedVariables false

theorem cd_pos {x y : Int} (h : 0 < y) : -((-x) / y) = if x % y = 0 then x / y else x / y + 1 := by
 have h1 := Int.emod_add_mul_ediv x y
 have h2 := Int.emod_nonneg x (show y ≠ 0 by omega)
 have h3 := Int.emod_lt_of_pos x h
 split
 ·rename_i h0
  have e : -x = y * (-(x / y)) := by rw [Int.mul_neg]; omega
  rw [e, Int.mul_ediv_cancel_left _ (by omega)]
  omega
 ·rename_i h0
  have e : -x = (y - x % y) + y * (-(x / y) - 1) := by rw [Int.mul_sub, Int.mul_neg, Int.mul_one]; omega
  rw [e, Int.add_mul_ediv_left _ _ (by omega), Int.ediv_eq_zero_of_lt (by omega) (by omega)]
  omega
theorem fd_pos {x y : Int} (h : 0 < y) : fdI x y = x / y ∧ cdI x y = if x % y = 0 then x / y else x / y + 1 := by
 unfold cdI fdI
 rw [if_neg (by omega), if_neg (by omega), cd_pos h]
 exact ⟨rfl, rfl⟩
theorem fd_neg {x y : Int} (h : y < 0) : fdI x y = (-x) / (-y) ∧ cdI x y = if (-x) % (-y) = 0 then (-x) / (-y) else (-x) / (-y) + 1 := by
 unfold cdI fdI
 rw [if_pos h, if_pos h, ← cd_pos (by omega)]
 exact ⟨rfl, rfl⟩
theorem sgn_p {X : Int} (h : 0 < X) : sgnI X = 1 := by unfold sgnI; rw [if_neg (by omega), if_neg (by omega)]
theorem sgn_m {X : Int} (h : X < 0) : sgnI X = -1 := by unfold sgnI; rw [if_pos h]

set_option maxRecDepth 100000 in
set_option maxHeartbeats 4000000 in
theorem divide_any {b b2 : Bool} {A A2 : Option Addr} {n c n2 c2 : Nat} {X Y : Int} {j j2 : Nat} {w : World} (h : Zr w b A n c X j) (h2 : Zr w b2 A2 n2 c2 Y j2) (hY : Y ≠ 0) (k : Nat) (hk : j + 2 ≤ k) (hk2 : j2 + 1 ≤ k) (hj : k ≤ 1000000) :
  Calls Tryz.prog 132 #[.agg #[.bool b, .slice A n c], .agg #[.bool b2, .slice A2 n2 c2]] w (Out2Z w (fdI X Y) (cdI X Y) k) := by
 rcases (show Y < 0 ∨ 0 < Y by omega) with hs | hs
 ·obtain ⟨f1, f2⟩ := fd_neg (x := X) hs
  have HS := Lib.hid (sgn_m hs)
  rw [f1, f2]
  clear f1 f2
  have hr0 := Int.emod_nonneg (-X) (show (-Y) ≠ 0 by omega)
  by_cases hr : (-X) % (-Y) = 0
  ·rw [if_pos hr]
   have HR : Hid (sgnI ((-X) % (-Y)) = 0) := Lib.hid (by rw [hr]; rfl)
   have hd0 : (-Y) ≠ 0 := by omega
   have HD := Lib.hid hd0; clear hd0 hr hr0 hs
   obtain ⟨D, hD⟩ : ∃ D, (-X) / (-Y) = D := ⟨_, rfl⟩
   obtain ⟨R, hR⟩ : ∃ R, (-X) % (-Y) = R := ⟨_, rfl⟩
   rw [hD]
   rw [hR] at HR
   have HDD := Lib.hid hD; have HRR := Lib.hid hR; clear hD hR
   go_enter Tryz.func132, Tryz.ntmps132
   go_wp2_with fail
   have x_a : Bx (w.alloc (.cells #[.bool b, .slice A n c] 25)) (w.heap.size) b A n c := by have := Bx.new w b A n c; simpa using this
   replace x_a := x_a.alloc (.cells #[.bool b2, .slice A2 n2 c2] 25)
   have x_b : Bx ((w.alloc (.cells #[.bool b, .slice A n c] 25)).alloc (.cells #[.bool b2, .slice A2 n2 c2] 25)) (w.heap.size + 1) b2 A2 n2 c2 := by have := Bx.new (w.alloc (.cells #[.bool b, .slice A n c] 25)) b2 A2 n2 c2; simpa using this
   replace x_a := x_a.alloc (.cells #[.bool false, .slice none 0 0] 25)
   replace x_b := x_b.alloc (.cells #[.bool false, .slice none 0 0] 25)
   have x_x : Bx (((w.alloc (.cells #[.bool b, .slice A n c] 25)).alloc (.cells #[.bool b2, .slice A2 n2 c2] 25)).alloc (.cells #[.bool false, .slice none 0 0] 25)) (w.heap.size + 1 + 1) false none 0 0 := by have := Bx.new ((w.alloc (.cells #[.bool b, .slice A n c] 25)).alloc (.cells #[.bool b2, .slice A2 n2 c2] 25)) false none 0 0; simpa using this
   replace x_a := x_a.alloc (.cells #[.bool false, .slice none 0 0] 25)
   replace x_b := x_b.alloc (.cells #[.bool false, .slice none 0 0] 25)
   replace x_x := x_x.alloc (.cells #[.bool false, .slice none 0 0] 25)
   have x_y : Bx ((((w.alloc (.cells #[.bool b, .slice A n c] 25)).alloc (.cells #[.bool b2, .slice A2 n2 c2] 25)).alloc (.cells #[.bool false, .slice none 0 0] 25)).alloc (.cells #[.bool false, .slice none 0 0] 25)) (w.heap.size + 1 + 1 + 1) false none 0 0 := by have := Bx.new (((w.alloc (.cells #[.bool b, .slice A n c] 25)).alloc (.cells #[.bool b2, .slice A2 n2 c2] 25)).alloc (.cells #[.bool false, .slice none 0 0] 25)) false none 0 0; simpa using this
   have hb : Below w.heap.size w ((((w.alloc (.cells #[.bool b, .slice A n c] 25)).alloc (.cells #[.bool b2, .slice A2 n2 c2] 25)).alloc (.cells #[.bool false, .slice none 0 0] 25)).alloc (.cells #[.bool false, .slice none 0 0] 25)) := (Below.alloc (Below.alloc (Below.alloc (Below.alloc (Below.refl w.heap.size w) (by simp) (.cells #[.bool b, .slice A n c] 25)) (by simp) (.cells #[.bool b2, .slice A2 n2 c2] 25)) (by simp; omega) (.cells #[.bool false, .slice none 0 0] 25)) (by simp; omega) (.cells #[.bool false, .slice none 0 0] 25))
   generalize (((w.alloc (.cells #[.bool b, .slice A n c] 25)).alloc (.cells #[.bool b2, .slice A2 n2 c2] 25)).alloc (.cells #[.bool false, .slice none 0 0] 25)).alloc (.cells #[.bool false, .slice none 0 0] 25) = v1 at *
   obtain ⟨h, h2⟩ := mv2 hb h h2
   have q_a := x_a.al
   have q_b := x_b.al
   have q_x := x_x.al
   have q_y := x_y.al
   go_wp2_with fail
   with_reducible refine (ZSign_any h2 (by omega)).mono ?_
   rintro e v2 ⟨rfl, hb1⟩
   obtain ⟨x_a, x_b, x_x, x_y, h, h2⟩ := mv6 hb1 x_a x_b x_x x_y h h2
   replace hb := bthen hb hb1
   clear hb1
   replace q_a := x_a.al
   replace q_b := x_b.al
   replace q_x := x_x.al
   replace q_y := x_y.al
   rw [HS.out]
   go_wp2_with fail
   go_region_with ((first | (go_at_call 95; (with_reducible refine (ZNeg_any h.drw j (Nat.le_refl _)).mono ?_); rintro e v3 ⟨A5, n5, c5, rfl, za, hb1⟩; replace hb1 := undrew hb1; obtain ⟨x_a, x_b, x_x, x_y, h, h2⟩ := mv6 hb1 x_a x_b x_x x_y h h2; replace hb := bthen hb hb1; clear hb1; replace q_a := x_a.al; replace q_b := x_b.al; replace q_x := x_x.al; replace q_y := x_y.al) | (go_at_call 95; (with_reducible refine (ZNeg_any h2 j2 (Nat.le_refl _)).mono ?_); rintro e v4 ⟨A6, n6, c6, rfl, zb, hb1⟩; obtain ⟨x_a, x_b, x_x, x_y, h, h2, za⟩ := mv7 hb1 x_a x_b x_x x_y h h2 za; replace hb := bthen hb hb1; clear hb1; replace q_a := x_a.al; replace q_b := x_b.al; replace q_x := x_x.al; replace q_y := x_y.al)))
   all_goals
    skip
    replace x_b := x_b.aside (b' := (ngB (-X))) (A' := A5) (n' := n5) (c' := c5) (g := w.heap.size) (by omega)
    replace x_x := x_x.aside (b' := (ngB (-X))) (A' := A5) (n' := n5) (c' := c5) (g := w.heap.size) (by omega)
    replace x_y := x_y.aside (b' := (ngB (-X))) (A' := A5) (n' := n5) (c' := c5) (g := w.heap.size) (by omega)
    replace h := h.put (b' := (ngB (-X))) (A' := A5) (n' := n5) (c' := c5) x_a
    replace h2 := h2.put (b' := (ngB (-X))) (A' := A5) (n' := n5) (c' := c5) x_a
    replace za := za.put (b' := (ngB (-X))) (A' := A5) (n' := n5) (c' := c5) x_a
    replace zb := zb.put (b' := (ngB (-X))) (A' := A5) (n' := n5) (c' := c5) x_a
    replace hb := put_below (g := w.heap.size) hb (by omega) (.bool (ngB (-X))) (.slice A5 n5 c5)
    replace x_a := x_a.put (ngB (-X)) A5 n5 c5
    clear q_a q_b q_x q_y
    generalize (v4.setCell ⟨w.heap.size, 0, none⟩ (.bool (ngB (-X)))).setCell ⟨w.heap.size, 1, none⟩ (.slice A5 n5 c5) = v5 at *
    have q_a := x_a.al
    have q_b := x_b.al
    have q_x := x_x.al
    have q_y := x_y.al
    replace x_a := x_a.aside (b' := (ngB (-Y))) (A' := A6) (n' := n6) (c' := c6) (g := w.heap.size + 1) (by omega)
    replace x_x := x_x.aside (b' := (ngB (-Y))) (A' := A6) (n' := n6) (c' := c6) (g := w.heap.size + 1) (by omega)
    replace x_y := x_y.aside (b' := (ngB (-Y))) (A' := A6) (n' := n6) (c' := c6) (g := w.heap.size + 1) (by omega)
    replace h := h.put (b' := (ngB (-Y))) (A' := A6) (n' := n6) (c' := c6) x_b
    replace h2 := h2.put (b' := (ngB (-Y))) (A' := A6) (n' := n6) (c' := c6) x_b
    replace za := za.put (b' := (ngB (-Y))) (A' := A6) (n' := n6) (c' := c6) x_b
    replace zb := zb.put (b' := (ngB (-Y))) (A' := A6) (n' := n6) (c' := c6) x_b
    replace hb := put_below (g := w.heap.size + 1) hb (by omega) (.bool (ngB (-Y))) (.slice A6 n6 c6)
    replace x_b := x_b.put (ngB (-Y)) A6 n6 c6
    clear q_a q_b q_x q_y
    generalize (v5.setCell ⟨w.heap.size + 1, 0, none⟩ (.bool (ngB (-Y)))).setCell ⟨w.heap.size + 1, 1, none⟩ (.slice A6 n6 c6) = v6 at *
    have q_a := x_a.al
    have q_b := x_b.al
    have q_x := x_x.al
    have q_y := x_y.al
    go_wp2_with fail
    with_reducible refine (ZDivMod_any za.zr zb.zr HD.out (k - 1) (by omega) (by omega) (by omega)).mono ?_
    rintro e v7 ⟨A7, n7, c7, A8, n8, c8, rfl, zq, zr, hb1⟩
    obtain ⟨x_a, x_b, x_x, x_y, h, h2, za, zb⟩ := mv8 hb1 x_a x_b x_x x_y h h2 za zb
    replace hb := bthen hb hb1
    clear hb1
    replace q_a := x_a.al
    replace q_b := x_b.al
    replace q_x := x_x.al
    replace q_y := x_y.al
    rw [HDD.out] at zq
    rw [HRR.out] at zr
    rw [HDD.out, HRR.out]
    clear q_a
    clear q_b
    have y_x := ((x_x.alloc (.cells #[.bool (ngB D), .slice A7 n7 c7] 25)).alloc (.cells #[.bool (ngB R), .slice A8 n8 c8] 25)); have yq_x0 := y_x.c0; have yq_x1 := y_x.c1
    have y_y := ((x_y.alloc (.cells #[.bool (ngB D), .slice A7 n7 c7] 25)).alloc (.cells #[.bool (ngB R), .slice A8 n8 c8] 25)); have yq_y0 := y_y.c0; have yq_y1 := y_y.c1
    go_wp2_with fail
    clear y_x yq_x0 yq_x1 y_y yq_y0 yq_y1
    have l_a_d := x_a.lt
    have l_b_d := x_b.lt
    have l_x_d := x_x.lt
    have l_y_d := x_y.lt
    have e_d : w.heap.size ≤ v7.heap.size := hb.size
    have hb1 := below_alloc2 v7 (.cells #[.bool (ngB D), .slice A7 n7 c7] 25) (.cells #[.bool (ngB R), .slice A8 n8 c8] 25)
    have x_d := (Bx.new v7 (ngB D) A7 n7 c7).alloc (.cells #[.bool (ngB R), .slice A8 n8 c8] 25)
    have x_e : Bx ((v7.alloc (.cells #[.bool (ngB D), .slice A7 n7 c7] 25)).alloc (.cells #[.bool (ngB R), .slice A8 n8 c8] 25)) (v7.heap.size + 1) (ngB R) A8 n8 c8 := by have := Bx.new (v7.alloc (.cells #[.bool (ngB D), .slice A7 n7 c7] 25)) (ngB R) A8 n8 c8; simpa using this
    clear q_x q_y
    obtain ⟨x_a, x_b, x_x, x_y, h, h2, za, zb, zq⟩ := mv9 hb1 x_a x_b x_x x_y h h2 za zb zq
    replace zr := zr.keep hb1
    replace hb := bthen hb hb1
    clear hb1
    generalize (v7.alloc (.cells #[.bool (ngB D), .slice A7 n7 c7] 25)).alloc (.cells #[.bool (ngB R), .slice A8 n8 c8] 25) = v8 at *
    have q_x := x_x.al
    have q_y := x_y.al
    have q_d := x_d.al
    have q_e := x_e.al
    skip
    with_reducible refine (ZSign_any zr.zr (by omega)).mono ?_
    rintro e v9 ⟨rfl, hb1⟩
    obtain ⟨x_a, x_b, x_x, x_y, x_d, x_e, h, h2, za⟩ := mv9 hb1 x_a x_b x_x x_y x_d x_e h h2 za
    obtain ⟨zb, zq, zr⟩ := mv3 hb1 zb zq zr
    replace hb := bthen hb hb1
    clear hb1
    replace q_x := x_x.al
    replace q_y := x_y.al
    replace q_d := x_d.al
    replace q_e := x_e.al
    rw [HR.out]
    go_wp2_with fail
    go_region_held3 (fun w' => w'.cell? ⟨v7.heap.size, 0, none⟩ = some (.bool (ngB D)) ∧ w'.cell? ⟨v7.heap.size, 1, none⟩ = some (.slice A7 n7 c7))
     (first | (with_reducible exact ⟨x_d.drew.c0, x_d.drew.c1⟩) | (with_reducible exact ⟨(x_d.aside (by omega)).drew.c0, (x_d.aside (by omega)).drew.c1⟩) | (with_reducible exact ⟨((x_d.aside (by omega)).aside (by omega)).drew.c0, ((x_d.aside (by omega)).aside (by omega)).drew.c1⟩) | go_keep)
     (first | fail)
    skip
    replace x_a := x_a.aside (b' := (ngB D)) (A' := A7) (n' := n7) (c' := c7) (g := w.heap.size + 1 + 1) (by omega)
    replace x_b := x_b.aside (b' := (ngB D)) (A' := A7) (n' := n7) (c' := c7) (g := w.heap.size + 1 + 1) (by omega)
    replace x_y := x_y.aside (b' := (ngB D)) (A' := A7) (n' := n7) (c' := c7) (g := w.heap.size + 1 + 1) (by omega)
    replace x_d := x_d.aside (b' := (ngB D)) (A' := A7) (n' := n7) (c' := c7) (g := w.heap.size + 1 + 1) (by omega)
    replace x_e := x_e.aside (b' := (ngB D)) (A' := A7) (n' := n7) (c' := c7) (g := w.heap.size + 1 + 1) (by omega)
    replace h := h.put (b' := (ngB D)) (A' := A7) (n' := n7) (c' := c7) x_x
    replace h2 := h2.put (b' := (ngB D)) (A' := A7) (n' := n7) (c' := c7) x_x
    replace za := za.put (b' := (ngB D)) (A' := A7) (n' := n7) (c' := c7) x_x
    replace zb := zb.put (b' := (ngB D)) (A' := A7) (n' := n7) (c' := c7) x_x
    replace zq := zq.put (b' := (ngB D)) (A' := A7) (n' := n7) (c' := c7) x_x
    replace zr := zr.put (b' := (ngB D)) (A' := A7) (n' := n7) (c' := c7) x_x
    replace hb := put_below (g := w.heap.size + 1 + 1) hb (by omega) (.bool (ngB D)) (.slice A7 n7 c7)
    replace x_x := x_x.put (ngB D) A7 n7 c7
    clear q_x q_y q_d q_e
    generalize (v9.setCell ⟨w.heap.size + 1 + 1, 0, none⟩ (.bool (ngB D))).setCell ⟨w.heap.size + 1 + 1, 1, none⟩ (.slice A7 n7 c7) = v10 at *
    have q_x := x_x.al
    have q_y := x_y.al
    have q_d := x_d.al
    have q_e := x_e.al
    replace x_a := x_a.aside (b' := (ngB D)) (A' := A7) (n' := n7) (c' := c7) (g := w.heap.size + 1 + 1 + 1) (by omega)
    replace x_b := x_b.aside (b' := (ngB D)) (A' := A7) (n' := n7) (c' := c7) (g := w.heap.size + 1 + 1 + 1) (by omega)
    replace x_x := x_x.aside (b' := (ngB D)) (A' := A7) (n' := n7) (c' := c7) (g := w.heap.size + 1 + 1 + 1) (by omega)
    replace x_d := x_d.aside (b' := (ngB D)) (A' := A7) (n' := n7) (c' := c7) (g := w.heap.size + 1 + 1 + 1) (by omega)
    replace x_e := x_e.aside (b' := (ngB D)) (A' := A7) (n' := n7) (c' := c7) (g := w.heap.size + 1 + 1 + 1) (by omega)
    replace h := h.put (b' := (ngB D)) (A' := A7) (n' := n7) (c' := c7) x_y
    replace h2 := h2.put (b' := (ngB D)) (A' := A7) (n' := n7) (c' := c7) x_y
    replace za := za.put (b' := (ngB D)) (A' := A7) (n' := n7) (c' := c7) x_y
    replace zb := zb.put (b' := (ngB D)) (A' := A7) (n' := n7) (c' := c7) x_y
    replace zq := zq.put (b' := (ngB D)) (A' := A7) (n' := n7) (c' := c7) x_y
    replace zr := zr.put (b' := (ngB D)) (A' := A7) (n' := n7) (c' := c7) x_y
    replace hb := put_below (g := w.heap.size + 1 + 1 + 1) hb (by omega) (.bool (ngB D)) (.slice A7 n7 c7)
    replace x_y := x_y.put (ngB D) A7 n7 c7
    clear q_x q_y q_d q_e
    generalize (v10.setCell ⟨w.heap.size + 1 + 1 + 1, 0, none⟩ (.bool (ngB D))).setCell ⟨w.heap.size + 1 + 1 + 1, 1, none⟩ (.slice A7 n7 c7) = v11 at *
    have q_x := x_x.al
    have q_y := x_y.al
    have q_d := x_d.al
    have q_e := x_e.al
    replace x_a := x_a.drew
    replace x_b := x_b.drew
    replace x_x := x_x.drew
    replace x_y := x_y.drew
    replace x_d := x_d.drew
    replace x_e := x_e.drew
    replace h := h.drw
    replace h2 := h2.drw
    replace za := za.drw
    replace zb := zb.drw
    replace zq := zq.drw
    replace zr := zr.drw
    replace hb := below_drew hb
    clear q_x q_y q_d q_e
    generalize v11.drew = v12 at *
    have q_x := x_x.al
    have q_y := x_y.al
    have q_d := x_d.al
    have q_e := x_e.al
    go_wp2
    refine bodyPost_ret (v := .tuple #[.agg #[.bool (ngB D), .slice A7 n7 c7], .agg #[.bool (ngB D), .slice A7 n7 c7]]) (by simp [results, Tryz.results132, go_sem, q_x, q_y]) rfl ?_
    exact ⟨_, _, _, _, _, _, rfl, ⟨zq.1, by have := zq.2; omega⟩, ⟨zq.1, by have := zq.2; omega⟩, hb⟩
  ·rw [if_neg hr]
   have HR : Hid (sgnI ((-X) % (-Y)) = 1) := Lib.hid (sgn_p (by omega))
   have hd0 : (-Y) ≠ 0 := by omega
   have HD := Lib.hid hd0; clear hd0 hr hr0 hs
   obtain ⟨D, hD⟩ : ∃ D, (-X) / (-Y) = D := ⟨_, rfl⟩
   obtain ⟨R, hR⟩ : ∃ R, (-X) % (-Y) = R := ⟨_, rfl⟩
   rw [hD]
   rw [hR] at HR
   have HDD := Lib.hid hD; have HRR := Lib.hid hR; clear hD hR
   go_enter Tryz.func132, Tryz.ntmps132
   go_wp2_with fail
   have x_a : Bx (w.alloc (.cells #[.bool b, .slice A n c] 25)) (w.heap.size) b A n c := by have := Bx.new w b A n c; simpa using this
   replace x_a := x_a.alloc (.cells #[.bool b2, .slice A2 n2 c2] 25)
   have x_b : Bx ((w.alloc (.cells #[.bool b, .slice A n c] 25)).alloc (.cells #[.bool b2, .slice A2 n2 c2] 25)) (w.heap.size + 1) b2 A2 n2 c2 := by have := Bx.new (w.alloc (.cells #[.bool b, .slice A n c] 25)) b2 A2 n2 c2; simpa using this
   replace x_a := x_a.alloc (.cells #[.bool false, .slice none 0 0] 25)
   replace x_b := x_b.alloc (.cells #[.bool false, .slice none 0 0] 25)
   have x_x : Bx (((w.alloc (.cells #[.bool b, .slice A n c] 25)).alloc (.cells #[.bool b2, .slice A2 n2 c2] 25)).alloc (.cells #[.bool false, .slice none 0 0] 25)) (w.heap.size + 1 + 1) false none 0 0 := by have := Bx.new ((w.alloc (.cells #[.bool b, .slice A n c] 25)).alloc (.cells #[.bool b2, .slice A2 n2 c2] 25)) false none 0 0; simpa using this
   replace x_a := x_a.alloc (.cells #[.bool false, .slice none 0 0] 25)
   replace x_b := x_b.alloc (.cells #[.bool false, .slice none 0 0] 25)
   replace x_x := x_x.alloc (.cells #[.bool false, .slice none 0 0] 25)
   have x_y : Bx ((((w.alloc (.cells #[.bool b, .slice A n c] 25)).alloc (.cells #[.bool b2, .slice A2 n2 c2] 25)).alloc (.cells #[.bool false, .slice none 0 0] 25)).alloc (.cells #[.bool false, .slice none 0 0] 25)) (w.heap.size + 1 + 1 + 1) false none 0 0 := by have := Bx.new (((w.alloc (.cells #[.bool b, .slice A n c] 25)).alloc (.cells #[.bool b2, .slice A2 n2 c2] 25)).alloc (.cells #[.bool false, .slice none 0 0] 25)) false none 0 0; simpa using this
   have hb : Below w.heap.size w ((((w.alloc (.cells #[.bool b, .slice A n c] 25)).alloc (.cells #[.bool b2, .slice A2 n2 c2] 25)).alloc (.cells #[.bool false, .slice none 0 0] 25)).alloc (.cells #[.bool false, .slice none 0 0] 25)) := (Below.alloc (Below.alloc (Below.alloc (Below.alloc (Below.refl w.heap.size w) (by simp) (.cells #[.bool b, .slice A n c] 25)) (by simp) (.cells #[.bool b2, .slice A2 n2 c2] 25)) (by simp; omega) (.cells #[.bool false, .slice none 0 0] 25)) (by simp; omega) (.cells #[.bool false, .slice none 0 0] 25))
   generalize (((w.alloc (.cells #[.bool b, .slice A n c] 25)).alloc (.cells #[.bool b2, .slice A2 n2 c2] 25)).alloc (.cells #[.bool false, .slice none 0 0] 25)).alloc (.cells #[.bool false, .slice none 0 0] 25) = v1 at *
   obtain ⟨h, h2⟩ := mv2 hb h h2
   have q_a := x_a.al
   have q_b := x_b.al
   have q_x := x_x.al
   have q_y := x_y.al
   go_wp2_with fail
   with_reducible refine (ZSign_any h2 (by omega)).mono ?_
   rintro e v2 ⟨rfl, hb1⟩
   obtain ⟨x_a, x_b, x_x, x_y, h, h2⟩ := mv6 hb1 x_a x_b x_x x_y h h2
   replace hb := bthen hb hb1
   clear hb1
   replace q_a := x_a.al
   replace q_b := x_b.al
   replace q_x := x_x.al
   replace q_y := x_y.al
   rw [HS.out]
   go_wp2_with fail
   go_region_with ((first | (go_at_call 95; (with_reducible refine (ZNeg_any h.drw j (Nat.le_refl _)).mono ?_); rintro e v3 ⟨A5, n5, c5, rfl, za, hb1⟩; replace hb1 := undrew hb1; obtain ⟨x_a, x_b, x_x, x_y, h, h2⟩ := mv6 hb1 x_a x_b x_x x_y h h2; replace hb := bthen hb hb1; clear hb1; replace q_a := x_a.al; replace q_b := x_b.al; replace q_x := x_x.al; replace q_y := x_y.al) | (go_at_call 95; (with_reducible refine (ZNeg_any h2 j2 (Nat.le_refl _)).mono ?_); rintro e v4 ⟨A6, n6, c6, rfl, zb, hb1⟩; obtain ⟨x_a, x_b, x_x, x_y, h, h2, za⟩ := mv7 hb1 x_a x_b x_x x_y h h2 za; replace hb := bthen hb hb1; clear hb1; replace q_a := x_a.al; replace q_b := x_b.al; replace q_x := x_x.al; replace q_y := x_y.al)))
   all_goals
    skip
    replace x_b := x_b.aside (b' := (ngB (-X))) (A' := A5) (n' := n5) (c' := c5) (g := w.heap.size) (by omega)
    replace x_x := x_x.aside (b' := (ngB (-X))) (A' := A5) (n' := n5) (c' := c5) (g := w.heap.size) (by omega)
    replace x_y := x_y.aside (b' := (ngB (-X))) (A' := A5) (n' := n5) (c' := c5) (g := w.heap.size) (by omega)
    replace h := h.put (b' := (ngB (-X))) (A' := A5) (n' := n5) (c' := c5) x_a
    replace h2 := h2.put (b' := (ngB (-X))) (A' := A5) (n' := n5) (c' := c5) x_a
    replace za := za.put (b' := (ngB (-X))) (A' := A5) (n' := n5) (c' := c5) x_a
    replace zb := zb.put (b' := (ngB (-X))) (A' := A5) (n' := n5) (c' := c5) x_a
    replace hb := put_below (g := w.heap.size) hb (by omega) (.bool (ngB (-X))) (.slice A5 n5 c5)
    replace x_a := x_a.put (ngB (-X)) A5 n5 c5
    clear q_a q_b q_x q_y
    generalize (v4.setCell ⟨w.heap.size, 0, none⟩ (.bool (ngB (-X)))).setCell ⟨w.heap.size, 1, none⟩ (.slice A5 n5 c5) = v5 at *
    have q_a := x_a.al
    have q_b := x_b.al
    have q_x := x_x.al
    have q_y := x_y.al
    replace x_a := x_a.aside (b' := (ngB (-Y))) (A' := A6) (n' := n6) (c' := c6) (g := w.heap.size + 1) (by omega)
    replace x_x := x_x.aside (b' := (ngB (-Y))) (A' := A6) (n' := n6) (c' := c6) (g := w.heap.size + 1) (by omega)
    replace x_y := x_y.aside (b' := (ngB (-Y))) (A' := A6) (n' := n6) (c' := c6) (g := w.heap.size + 1) (by omega)
    replace h := h.put (b' := (ngB (-Y))) (A' := A6) (n' := n6) (c' := c6) x_b
    replace h2 := h2.put (b' := (ngB (-Y))) (A' := A6) (n' := n6) (c' := c6) x_b
    replace za := za.put (b' := (ngB (-Y))) (A' := A6) (n' := n6) (c' := c6) x_b
    replace zb := zb.put (b' := (ngB (-Y))) (A' := A6) (n' := n6) (c' := c6) x_b
    replace hb := put_below (g := w.heap.size + 1) hb (by omega) (.bool (ngB (-Y))) (.slice A6 n6 c6)
    replace x_b := x_b.put (ngB (-Y)) A6 n6 c6
    clear q_a q_b q_x q_y
    generalize (v5.setCell ⟨w.heap.size + 1, 0, none⟩ (.bool (ngB (-Y)))).setCell ⟨w.heap.size + 1, 1, none⟩ (.slice A6 n6 c6) = v6 at *
    have q_a := x_a.al
    have q_b := x_b.al
    have q_x := x_x.al
    have q_y := x_y.al
    go_wp2_with fail
    with_reducible refine (ZDivMod_any za.zr zb.zr HD.out (k - 1) (by omega) (by omega) (by omega)).mono ?_
    rintro e v7 ⟨A7, n7, c7, A8, n8, c8, rfl, zq, zr, hb1⟩
    obtain ⟨x_a, x_b, x_x, x_y, h, h2, za, zb⟩ := mv8 hb1 x_a x_b x_x x_y h h2 za zb
    replace hb := bthen hb hb1
    clear hb1
    replace q_a := x_a.al
    replace q_b := x_b.al
    replace q_x := x_x.al
    replace q_y := x_y.al
    rw [HDD.out] at zq
    rw [HRR.out] at zr
    rw [HDD.out, HRR.out]
    clear q_a
    clear q_b
    have y_x := ((x_x.alloc (.cells #[.bool (ngB D), .slice A7 n7 c7] 25)).alloc (.cells #[.bool (ngB R), .slice A8 n8 c8] 25)); have yq_x0 := y_x.c0; have yq_x1 := y_x.c1
    have y_y := ((x_y.alloc (.cells #[.bool (ngB D), .slice A7 n7 c7] 25)).alloc (.cells #[.bool (ngB R), .slice A8 n8 c8] 25)); have yq_y0 := y_y.c0; have yq_y1 := y_y.c1
    go_wp2_with fail
    clear y_x yq_x0 yq_x1 y_y yq_y0 yq_y1
    have l_a_d := x_a.lt
    have l_b_d := x_b.lt
    have l_x_d := x_x.lt
    have l_y_d := x_y.lt
    have e_d : w.heap.size ≤ v7.heap.size := hb.size
    have hb1 := below_alloc2 v7 (.cells #[.bool (ngB D), .slice A7 n7 c7] 25) (.cells #[.bool (ngB R), .slice A8 n8 c8] 25)
    have x_d := (Bx.new v7 (ngB D) A7 n7 c7).alloc (.cells #[.bool (ngB R), .slice A8 n8 c8] 25)
    have x_e : Bx ((v7.alloc (.cells #[.bool (ngB D), .slice A7 n7 c7] 25)).alloc (.cells #[.bool (ngB R), .slice A8 n8 c8] 25)) (v7.heap.size + 1) (ngB R) A8 n8 c8 := by have := Bx.new (v7.alloc (.cells #[.bool (ngB D), .slice A7 n7 c7] 25)) (ngB R) A8 n8 c8; simpa using this
    clear q_x q_y
    obtain ⟨x_a, x_b, x_x, x_y, h, h2, za, zb, zq⟩ := mv9 hb1 x_a x_b x_x x_y h h2 za zb zq
    replace zr := zr.keep hb1
    replace hb := bthen hb hb1
    clear hb1
    generalize (v7.alloc (.cells #[.bool (ngB D), .slice A7 n7 c7] 25)).alloc (.cells #[.bool (ngB R), .slice A8 n8 c8] 25) = v8 at *
    have q_x := x_x.al
    have q_y := x_y.al
    have q_d := x_d.al
    have q_e := x_e.al
    skip
    with_reducible refine (ZSign_any zr.zr (by omega)).mono ?_
    rintro e v9 ⟨rfl, hb1⟩
    obtain ⟨x_a, x_b, x_x, x_y, x_d, x_e, h, h2, za⟩ := mv9 hb1 x_a x_b x_x x_y x_d x_e h h2 za
    obtain ⟨zb, zq, zr⟩ := mv3 hb1 zb zq zr
    replace hb := bthen hb hb1
    clear hb1
    replace q_x := x_x.al
    replace q_y := x_y.al
    replace q_d := x_d.al
    replace q_e := x_e.al
    rw [HR.out]
    go_wp2_with fail
    go_region_held3 (fun w' => w'.cell? ⟨v7.heap.size, 0, none⟩ = some (.bool (ngB D)) ∧ w'.cell? ⟨v7.heap.size, 1, none⟩ = some (.slice A7 n7 c7))
     (first | (with_reducible exact ⟨x_d.c0, x_d.c1⟩) | (with_reducible exact ⟨(x_d.aside (by omega)).c0, (x_d.aside (by omega)).c1⟩) | (with_reducible exact ⟨((x_d.aside (by omega)).aside (by omega)).c0, ((x_d.aside (by omega)).aside (by omega)).c1⟩) | (with_reducible exact ⟨(x_d.asideD (by omega)).c0, (x_d.asideD (by omega)).c1⟩) | (with_reducible exact ⟨((x_d.asideD (by omega)).asideD (by omega)).c0, ((x_d.asideD (by omega)).asideD (by omega)).c1⟩) | (with_reducible exact ⟨(x_d.asideL (by omega)).c0, (x_d.asideL (by omega)).c1⟩) | (with_reducible exact ⟨((x_d.asideL (by omega)).asideL (by omega)).c0, ((x_d.asideL (by omega)).asideL (by omega)).c1⟩) | go_keep)
     (first | (go_at_call 100; (with_reducible refine (ZOf_any 1 (by omega) (by omega)).mono ?_); rintro e v10 ⟨A9, n9, c9, rfl, zo, hb1⟩; replace hb1 := undrew hb1; obtain ⟨x_a, x_b, x_x, x_y, x_d, x_e, h, h2, za⟩ := mv9 hb1 x_a x_b x_x x_y x_d x_e h h2 za; obtain ⟨zb, zq, zr⟩ := mv3 hb1 zb zq zr; replace hb := bthen hb hb1; clear hb1; replace q_x := x_x.al; replace q_y := x_y.al; replace q_d := x_d.al; replace q_e := x_e.al) | (go_at_call 102; (with_reducible refine (ZAdd_any zq.zr zo.zr k (by omega) (by omega) (by omega)).mono ?_); rintro e v11 ⟨A10, n10, c10, rfl, zs, hb1⟩; obtain ⟨x_a, x_b, x_x, x_y, x_d, x_e, h, h2, za⟩ := mv9 hb1 x_a x_b x_x x_y x_d x_e h h2 za; obtain ⟨zb, zq, zr, zo⟩ := mv4 hb1 zb zq zr zo; replace hb := bthen hb hb1; clear hb1; replace q_x := x_x.al; replace q_y := x_y.al; replace q_d := x_d.al; replace q_e := x_e.al))
    go_wp2
    replace x_a := x_a.aside (b' := (ngB D)) (A' := A7) (n' := n7) (c' := c7) (g := w.heap.size + 1 + 1) (by omega)
    replace x_b := x_b.aside (b' := (ngB D)) (A' := A7) (n' := n7) (c' := c7) (g := w.heap.size + 1 + 1) (by omega)
    replace x_y := x_y.aside (b' := (ngB D)) (A' := A7) (n' := n7) (c' := c7) (g := w.heap.size + 1 + 1) (by omega)
    replace x_d := x_d.aside (b' := (ngB D)) (A' := A7) (n' := n7) (c' := c7) (g := w.heap.size + 1 + 1) (by omega)
    replace x_e := x_e.aside (b' := (ngB D)) (A' := A7) (n' := n7) (c' := c7) (g := w.heap.size + 1 + 1) (by omega)
    replace h := h.put (b' := (ngB D)) (A' := A7) (n' := n7) (c' := c7) x_x
    replace h2 := h2.put (b' := (ngB D)) (A' := A7) (n' := n7) (c' := c7) x_x
    replace za := za.put (b' := (ngB D)) (A' := A7) (n' := n7) (c' := c7) x_x
    replace zb := zb.put (b' := (ngB D)) (A' := A7) (n' := n7) (c' := c7) x_x
    replace zq := zq.put (b' := (ngB D)) (A' := A7) (n' := n7) (c' := c7) x_x
    replace zr := zr.put (b' := (ngB D)) (A' := A7) (n' := n7) (c' := c7) x_x
    replace zo := zo.put (b' := (ngB D)) (A' := A7) (n' := n7) (c' := c7) x_x
    replace zs := zs.put (b' := (ngB D)) (A' := A7) (n' := n7) (c' := c7) x_x
    replace hb := put_below (g := w.heap.size + 1 + 1) hb (by omega) (.bool (ngB D)) (.slice A7 n7 c7)
    replace x_x := x_x.put (ngB D) A7 n7 c7
    clear q_x q_y q_d q_e
    generalize (v11.setCell ⟨w.heap.size + 1 + 1, 0, none⟩ (.bool (ngB D))).setCell ⟨w.heap.size + 1 + 1, 1, none⟩ (.slice A7 n7 c7) = v12 at *
    have q_x := x_x.al
    have q_y := x_y.al
    have q_d := x_d.al
    have q_e := x_e.al
    replace x_a := x_a.aside (b' := (ngB (D + 1))) (A' := A10) (n' := n10) (c' := c10) (g := w.heap.size + 1 + 1 + 1) (by omega)
    replace x_b := x_b.aside (b' := (ngB (D + 1))) (A' := A10) (n' := n10) (c' := c10) (g := w.heap.size + 1 + 1 + 1) (by omega)
    replace x_x := x_x.aside (b' := (ngB (D + 1))) (A' := A10) (n' := n10) (c' := c10) (g := w.heap.size + 1 + 1 + 1) (by omega)
    replace x_d := x_d.aside (b' := (ngB (D + 1))) (A' := A10) (n' := n10) (c' := c10) (g := w.heap.size + 1 + 1 + 1) (by omega)
    replace x_e := x_e.aside (b' := (ngB (D + 1))) (A' := A10) (n' := n10) (c' := c10) (g := w.heap.size + 1 + 1 + 1) (by omega)
    replace h := h.put (b' := (ngB (D + 1))) (A' := A10) (n' := n10) (c' := c10) x_y
    replace h2 := h2.put (b' := (ngB (D + 1))) (A' := A10) (n' := n10) (c' := c10) x_y
    replace za := za.put (b' := (ngB (D + 1))) (A' := A10) (n' := n10) (c' := c10) x_y
    replace zb := zb.put (b' := (ngB (D + 1))) (A' := A10) (n' := n10) (c' := c10) x_y
    replace zq := zq.put (b' := (ngB (D + 1))) (A' := A10) (n' := n10) (c' := c10) x_y
    replace zr := zr.put (b' := (ngB (D + 1))) (A' := A10) (n' := n10) (c' := c10) x_y
    replace zo := zo.put (b' := (ngB (D + 1))) (A' := A10) (n' := n10) (c' := c10) x_y
    replace zs := zs.put (b' := (ngB (D + 1))) (A' := A10) (n' := n10) (c' := c10) x_y
    replace hb := put_below (g := w.heap.size + 1 + 1 + 1) hb (by omega) (.bool (ngB (D + 1))) (.slice A10 n10 c10)
    replace x_y := x_y.put (ngB (D + 1)) A10 n10 c10
    clear q_x q_y q_d q_e
    generalize (v12.setCell ⟨w.heap.size + 1 + 1 + 1, 0, none⟩ (.bool (ngB (D + 1)))).setCell ⟨w.heap.size + 1 + 1 + 1, 1, none⟩ (.slice A10 n10 c10) = v13 at *
    have q_x := x_x.al
    have q_y := x_y.al
    have q_d := x_d.al
    have q_e := x_e.al
    refine bodyPost_ret (v := .tuple #[.agg #[.bool (ngB D), .slice A7 n7 c7], .agg #[.bool (ngB (D + 1)), .slice A10 n10 c10]]) (by simp [results, Tryz.results132, go_sem, q_x, q_y]) rfl ?_
    exact ⟨_, _, _, _, _, _, rfl, ⟨zq.1, by have := zq.2; omega⟩, zs, hb⟩
 ·obtain ⟨f1, f2⟩ := fd_pos (x := X) hs
  have HS := Lib.hid (sgn_p hs)
  rw [f1, f2]
  clear f1 f2
  have hr0 := Int.emod_nonneg X (show Y ≠ 0 by omega)
  by_cases hr : X % Y = 0
  ·rw [if_pos hr]
   have HR : Hid (sgnI (X % Y) = 0) := Lib.hid (by rw [hr]; rfl)
   have hd0 : Y ≠ 0 := by omega
   have HD := Lib.hid hd0; clear hd0 hr hr0 hs
   obtain ⟨D, hD⟩ : ∃ D, X / Y = D := ⟨_, rfl⟩
   obtain ⟨R, hR⟩ : ∃ R, X % Y = R := ⟨_, rfl⟩
   rw [hD]
   rw [hR] at HR
   have HDD := Lib.hid hD; have HRR := Lib.hid hR; clear hD hR
   go_enter Tryz.func132, Tryz.ntmps132
   go_wp2_with fail
   have x_a : Bx (w.alloc (.cells #[.bool b, .slice A n c] 25)) (w.heap.size) b A n c := by have := Bx.new w b A n c; simpa using this
   replace x_a := x_a.alloc (.cells #[.bool b2, .slice A2 n2 c2] 25)
   have x_b : Bx ((w.alloc (.cells #[.bool b, .slice A n c] 25)).alloc (.cells #[.bool b2, .slice A2 n2 c2] 25)) (w.heap.size + 1) b2 A2 n2 c2 := by have := Bx.new (w.alloc (.cells #[.bool b, .slice A n c] 25)) b2 A2 n2 c2; simpa using this
   replace x_a := x_a.alloc (.cells #[.bool false, .slice none 0 0] 25)
   replace x_b := x_b.alloc (.cells #[.bool false, .slice none 0 0] 25)
   have x_x : Bx (((w.alloc (.cells #[.bool b, .slice A n c] 25)).alloc (.cells #[.bool b2, .slice A2 n2 c2] 25)).alloc (.cells #[.bool false, .slice none 0 0] 25)) (w.heap.size + 1 + 1) false none 0 0 := by have := Bx.new ((w.alloc (.cells #[.bool b, .slice A n c] 25)).alloc (.cells #[.bool b2, .slice A2 n2 c2] 25)) false none 0 0; simpa using this
   replace x_a := x_a.alloc (.cells #[.bool false, .slice none 0 0] 25)
   replace x_b := x_b.alloc (.cells #[.bool false, .slice none 0 0] 25)
   replace x_x := x_x.alloc (.cells #[.bool false, .slice none 0 0] 25)
   have x_y : Bx ((((w.alloc (.cells #[.bool b, .slice A n c] 25)).alloc (.cells #[.bool b2, .slice A2 n2 c2] 25)).alloc (.cells #[.bool false, .slice none 0 0] 25)).alloc (.cells #[.bool false, .slice none 0 0] 25)) (w.heap.size + 1 + 1 + 1) false none 0 0 := by have := Bx.new (((w.alloc (.cells #[.bool b, .slice A n c] 25)).alloc (.cells #[.bool b2, .slice A2 n2 c2] 25)).alloc (.cells #[.bool false, .slice none 0 0] 25)) false none 0 0; simpa using this
   have hb : Below w.heap.size w ((((w.alloc (.cells #[.bool b, .slice A n c] 25)).alloc (.cells #[.bool b2, .slice A2 n2 c2] 25)).alloc (.cells #[.bool false, .slice none 0 0] 25)).alloc (.cells #[.bool false, .slice none 0 0] 25)) := (Below.alloc (Below.alloc (Below.alloc (Below.alloc (Below.refl w.heap.size w) (by simp) (.cells #[.bool b, .slice A n c] 25)) (by simp) (.cells #[.bool b2, .slice A2 n2 c2] 25)) (by simp; omega) (.cells #[.bool false, .slice none 0 0] 25)) (by simp; omega) (.cells #[.bool false, .slice none 0 0] 25))
   generalize (((w.alloc (.cells #[.bool b, .slice A n c] 25)).alloc (.cells #[.bool b2, .slice A2 n2 c2] 25)).alloc (.cells #[.bool false, .slice none 0 0] 25)).alloc (.cells #[.bool false, .slice none 0 0] 25) = v1 at *
   obtain ⟨h, h2⟩ := mv2 hb h h2
   have q_a := x_a.al
   have q_b := x_b.al
   have q_x := x_x.al
   have q_y := x_y.al
   go_wp2_with fail
   with_reducible refine (ZSign_any h2 (by omega)).mono ?_
   rintro e v2 ⟨rfl, hb1⟩
   obtain ⟨x_a, x_b, x_x, x_y, h, h2⟩ := mv6 hb1 x_a x_b x_x x_y h h2
   replace hb := bthen hb hb1
   clear hb1
   replace q_a := x_a.al
   replace q_b := x_b.al
   replace q_x := x_x.al
   replace q_y := x_y.al
   rw [HS.out]
   go_wp2_with fail
   with_reducible refine (ZDivMod_any h h2 HD.out (k - 1) (by omega) (by omega) (by omega)).mono ?_
   rintro e v3 ⟨A7, n7, c7, A8, n8, c8, rfl, zq, zr, hb1⟩
   obtain ⟨x_a, x_b, x_x, x_y, h, h2⟩ := mv6 hb1 x_a x_b x_x x_y h h2
   replace hb := bthen hb hb1
   clear hb1
   replace q_a := x_a.al
   replace q_b := x_b.al
   replace q_x := x_x.al
   replace q_y := x_y.al
   rw [HDD.out] at zq
   rw [HRR.out] at zr
   rw [HDD.out, HRR.out]
   clear q_a
   clear q_b
   have y_x := ((x_x.alloc (.cells #[.bool (ngB D), .slice A7 n7 c7] 25)).alloc (.cells #[.bool (ngB R), .slice A8 n8 c8] 25)); have yq_x0 := y_x.c0; have yq_x1 := y_x.c1
   have y_y := ((x_y.alloc (.cells #[.bool (ngB D), .slice A7 n7 c7] 25)).alloc (.cells #[.bool (ngB R), .slice A8 n8 c8] 25)); have yq_y0 := y_y.c0; have yq_y1 := y_y.c1
   go_wp2_with fail
   clear y_x yq_x0 yq_x1 y_y yq_y0 yq_y1
   have l_a_d := x_a.lt
   have l_b_d := x_b.lt
   have l_x_d := x_x.lt
   have l_y_d := x_y.lt
   have e_d : w.heap.size ≤ v3.heap.size := hb.size
   have hb1 := below_alloc2 v3 (.cells #[.bool (ngB D), .slice A7 n7 c7] 25) (.cells #[.bool (ngB R), .slice A8 n8 c8] 25)
   have x_d := (Bx.new v3 (ngB D) A7 n7 c7).alloc (.cells #[.bool (ngB R), .slice A8 n8 c8] 25)
   have x_e : Bx ((v3.alloc (.cells #[.bool (ngB D), .slice A7 n7 c7] 25)).alloc (.cells #[.bool (ngB R), .slice A8 n8 c8] 25)) (v3.heap.size + 1) (ngB R) A8 n8 c8 := by have := Bx.new (v3.alloc (.cells #[.bool (ngB D), .slice A7 n7 c7] 25)) (ngB R) A8 n8 c8; simpa using this
   clear q_x q_y
   obtain ⟨x_a, x_b, x_x, x_y, h, h2, zq, zr⟩ := mv8 hb1 x_a x_b x_x x_y h h2 zq zr
   replace hb := bthen hb hb1
   clear hb1
   generalize (v3.alloc (.cells #[.bool (ngB D), .slice A7 n7 c7] 25)).alloc (.cells #[.bool (ngB R), .slice A8 n8 c8] 25) = v4 at *
   have q_x := x_x.al
   have q_y := x_y.al
   have q_d := x_d.al
   have q_e := x_e.al
   skip
   with_reducible refine (ZSign_any zr.zr (by omega)).mono ?_
   rintro e v5 ⟨rfl, hb1⟩
   obtain ⟨x_a, x_b, x_x, x_y, x_d, x_e, h, h2, zq⟩ := mv9 hb1 x_a x_b x_x x_y x_d x_e h h2 zq
   replace zr := zr.keep hb1
   replace hb := bthen hb hb1
   clear hb1
   replace q_x := x_x.al
   replace q_y := x_y.al
   replace q_d := x_d.al
   replace q_e := x_e.al
   rw [HR.out]
   go_wp2_with fail
   go_region_held3 (fun w' => w'.cell? ⟨v3.heap.size, 0, none⟩ = some (.bool (ngB D)) ∧ w'.cell? ⟨v3.heap.size, 1, none⟩ = some (.slice A7 n7 c7))
    (first | (with_reducible exact ⟨x_d.drew.c0, x_d.drew.c1⟩) | (with_reducible exact ⟨(x_d.aside (by omega)).drew.c0, (x_d.aside (by omega)).drew.c1⟩) | (with_reducible exact ⟨((x_d.aside (by omega)).aside (by omega)).drew.c0, ((x_d.aside (by omega)).aside (by omega)).drew.c1⟩) | go_keep)
    (first | fail)
   skip
   replace x_a := x_a.aside (b' := (ngB D)) (A' := A7) (n' := n7) (c' := c7) (g := w.heap.size + 1 + 1) (by omega)
   replace x_b := x_b.aside (b' := (ngB D)) (A' := A7) (n' := n7) (c' := c7) (g := w.heap.size + 1 + 1) (by omega)
   replace x_y := x_y.aside (b' := (ngB D)) (A' := A7) (n' := n7) (c' := c7) (g := w.heap.size + 1 + 1) (by omega)
   replace x_d := x_d.aside (b' := (ngB D)) (A' := A7) (n' := n7) (c' := c7) (g := w.heap.size + 1 + 1) (by omega)
   replace x_e := x_e.aside (b' := (ngB D)) (A' := A7) (n' := n7) (c' := c7) (g := w.heap.size + 1 + 1) (by omega)
   replace h := h.put (b' := (ngB D)) (A' := A7) (n' := n7) (c' := c7) x_x
   replace h2 := h2.put (b' := (ngB D)) (A' := A7) (n' := n7) (c' := c7) x_x
   replace zq := zq.put (b' := (ngB D)) (A' := A7) (n' := n7) (c' := c7) x_x
   replace zr := zr.put (b' := (ngB D)) (A' := A7) (n' := n7) (c' := c7) x_x
   replace hb := put_below (g := w.heap.size + 1 + 1) hb (by omega) (.bool (ngB D)) (.slice A7 n7 c7)
   replace x_x := x_x.put (ngB D) A7 n7 c7
   clear q_x q_y q_d q_e
   generalize (v5.setCell ⟨w.heap.size + 1 + 1, 0, none⟩ (.bool (ngB D))).setCell ⟨w.heap.size + 1 + 1, 1, none⟩ (.slice A7 n7 c7) = v6 at *
   have q_x := x_x.al
   have q_y := x_y.al
   have q_d := x_d.al
   have q_e := x_e.al
   replace x_a := x_a.aside (b' := (ngB D)) (A' := A7) (n' := n7) (c' := c7) (g := w.heap.size + 1 + 1 + 1) (by omega)
   replace x_b := x_b.aside (b' := (ngB D)) (A' := A7) (n' := n7) (c' := c7) (g := w.heap.size + 1 + 1 + 1) (by omega)
   replace x_x := x_x.aside (b' := (ngB D)) (A' := A7) (n' := n7) (c' := c7) (g := w.heap.size + 1 + 1 + 1) (by omega)
   replace x_d := x_d.aside (b' := (ngB D)) (A' := A7) (n' := n7) (c' := c7) (g := w.heap.size + 1 + 1 + 1) (by omega)
   replace x_e := x_e.aside (b' := (ngB D)) (A' := A7) (n' := n7) (c' := c7) (g := w.heap.size + 1 + 1 + 1) (by omega)
   replace h := h.put (b' := (ngB D)) (A' := A7) (n' := n7) (c' := c7) x_y
   replace h2 := h2.put (b' := (ngB D)) (A' := A7) (n' := n7) (c' := c7) x_y
   replace zq := zq.put (b' := (ngB D)) (A' := A7) (n' := n7) (c' := c7) x_y
   replace zr := zr.put (b' := (ngB D)) (A' := A7) (n' := n7) (c' := c7) x_y
   replace hb := put_below (g := w.heap.size + 1 + 1 + 1) hb (by omega) (.bool (ngB D)) (.slice A7 n7 c7)
   replace x_y := x_y.put (ngB D) A7 n7 c7
   clear q_x q_y q_d q_e
   generalize (v6.setCell ⟨w.heap.size + 1 + 1 + 1, 0, none⟩ (.bool (ngB D))).setCell ⟨w.heap.size + 1 + 1 + 1, 1, none⟩ (.slice A7 n7 c7) = v7 at *
   have q_x := x_x.al
   have q_y := x_y.al
   have q_d := x_d.al
   have q_e := x_e.al
   replace x_a := x_a.drew
   replace x_b := x_b.drew
   replace x_x := x_x.drew
   replace x_y := x_y.drew
   replace x_d := x_d.drew
   replace x_e := x_e.drew
   replace h := h.drw
   replace h2 := h2.drw
   replace zq := zq.drw
   replace zr := zr.drw
   replace hb := below_drew hb
   clear q_x q_y q_d q_e
   generalize v7.drew = v8 at *
   have q_x := x_x.al
   have q_y := x_y.al
   have q_d := x_d.al
   have q_e := x_e.al
   go_wp2
   refine bodyPost_ret (v := .tuple #[.agg #[.bool (ngB D), .slice A7 n7 c7], .agg #[.bool (ngB D), .slice A7 n7 c7]]) (by simp [results, Tryz.results132, go_sem, q_x, q_y]) rfl ?_
   exact ⟨_, _, _, _, _, _, rfl, ⟨zq.1, by have := zq.2; omega⟩, ⟨zq.1, by have := zq.2; omega⟩, hb⟩
  ·rw [if_neg hr]
   have HR : Hid (sgnI (X % Y) = 1) := Lib.hid (sgn_p (by omega))
   have hd0 : Y ≠ 0 := by omega
   have HD := Lib.hid hd0; clear hd0 hr hr0 hs
   obtain ⟨D, hD⟩ : ∃ D, X / Y = D := ⟨_, rfl⟩
   obtain ⟨R, hR⟩ : ∃ R, X % Y = R := ⟨_, rfl⟩
   rw [hD]
   rw [hR] at HR
   have HDD := Lib.hid hD; have HRR := Lib.hid hR; clear hD hR
   go_enter Tryz.func132, Tryz.ntmps132
   go_wp2_with fail
   have x_a : Bx (w.alloc (.cells #[.bool b, .slice A n c] 25)) (w.heap.size) b A n c := by have := Bx.new w b A n c; simpa using this
   replace x_a := x_a.alloc (.cells #[.bool b2, .slice A2 n2 c2] 25)
   have x_b : Bx ((w.alloc (.cells #[.bool b, .slice A n c] 25)).alloc (.cells #[.bool b2, .slice A2 n2 c2] 25)) (w.heap.size + 1) b2 A2 n2 c2 := by have := Bx.new (w.alloc (.cells #[.bool b, .slice A n c] 25)) b2 A2 n2 c2; simpa using this
   replace x_a := x_a.alloc (.cells #[.bool false, .slice none 0 0] 25)
   replace x_b := x_b.alloc (.cells #[.bool false, .slice none 0 0] 25)
   have x_x : Bx (((w.alloc (.cells #[.bool b, .slice A n c] 25)).alloc (.cells #[.bool b2, .slice A2 n2 c2] 25)).alloc (.cells #[.bool false, .slice none 0 0] 25)) (w.heap.size + 1 + 1) false none 0 0 := by have := Bx.new ((w.alloc (.cells #[.bool b, .slice A n c] 25)).alloc (.cells #[.bool b2, .slice A2 n2 c2] 25)) false none 0 0; simpa using this
   replace x_a := x_a.alloc (.cells #[.bool false, .slice none 0 0] 25)
   replace x_b := x_b.alloc (.cells #[.bool false, .slice none 0 0] 25)
   replace x_x := x_x.alloc (.cells #[.bool false, .slice none 0 0] 25)
   have x_y : Bx ((((w.alloc (.cells #[.bool b, .slice A n c] 25)).alloc (.cells #[.bool b2, .slice A2 n2 c2] 25)).alloc (.cells #[.bool false, .slice none 0 0] 25)).alloc (.cells #[.bool false, .slice none 0 0] 25)) (w.heap.size + 1 + 1 + 1) false none 0 0 := by have := Bx.new (((w.alloc (.cells #[.bool b, .slice A n c] 25)).alloc (.cells #[.bool b2, .slice A2 n2 c2] 25)).alloc (.cells #[.bool false, .slice none 0 0] 25)) false none 0 0; simpa using this
   have hb : Below w.heap.size w ((((w.alloc (.cells #[.bool b, .slice A n c] 25)).alloc (.cells #[.bool b2, .slice A2 n2 c2] 25)).alloc (.cells #[.bool false, .slice none 0 0] 25)).alloc (.cells #[.bool false, .slice none 0 0] 25)) := (Below.alloc (Below.alloc (Below.alloc (Below.alloc (Below.refl w.heap.size w) (by simp) (.cells #[.bool b, .slice A n c] 25)) (by simp) (.cells #[.bool b2, .slice A2 n2 c2] 25)) (by simp; omega) (.cells #[.bool false, .slice none 0 0] 25)) (by simp; omega) (.cells #[.bool false, .slice none 0 0] 25))
   generalize (((w.alloc (.cells #[.bool b, .slice A n c] 25)).alloc (.cells #[.bool b2, .slice A2 n2 c2] 25)).alloc (.cells #[.bool false, .slice none 0 0] 25)).alloc (.cells #[.bool false, .slice none 0 0] 25) = v1 at *
   obtain ⟨h, h2⟩ := mv2 hb h h2
   have q_a := x_a.al
   have q_b := x_b.al
   have q_x := x_x.al
   have q_y := x_y.al
   go_wp2_with fail
   with_reducible refine (ZSign_any h2 (by omega)).mono ?_
   rintro e v2 ⟨rfl, hb1⟩
   obtain ⟨x_a, x_b, x_x, x_y, h, h2⟩ := mv6 hb1 x_a x_b x_x x_y h h2
   replace hb := bthen hb hb1
   clear hb1
   replace q_a := x_a.al
   replace q_b := x_b.al
   replace q_x := x_x.al
   replace q_y := x_y.al
   rw [HS.out]
   go_wp2_with fail
   with_reducible refine (ZDivMod_any h h2 HD.out (k - 1) (by omega) (by omega) (by omega)).mono ?_
   rintro e v3 ⟨A7, n7, c7, A8, n8, c8, rfl, zq, zr, hb1⟩
   obtain ⟨x_a, x_b, x_x, x_y, h, h2⟩ := mv6 hb1 x_a x_b x_x x_y h h2
   replace hb := bthen hb hb1
   clear hb1
   replace q_a := x_a.al
   replace q_b := x_b.al
   replace q_x := x_x.al
   replace q_y := x_y.al
   rw [HDD.out] at zq
   rw [HRR.out] at zr
   rw [HDD.out, HRR.out]
   clear q_a
   clear q_b
   have y_x := ((x_x.alloc (.cells #[.bool (ngB D), .slice A7 n7 c7] 25)).alloc (.cells #[.bool (ngB R), .slice A8 n8 c8] 25)); have yq_x0 := y_x.c0; have yq_x1 := y_x.c1
   have y_y := ((x_y.alloc (.cells #[.bool (ngB D), .slice A7 n7 c7] 25)).alloc (.cells #[.bool (ngB R), .slice A8 n8 c8] 25)); have yq_y0 := y_y.c0; have yq_y1 := y_y.c1
   go_wp2_with fail
   clear y_x yq_x0 yq_x1 y_y yq_y0 yq_y1
   have l_a_d := x_a.lt
   have l_b_d := x_b.lt
   have l_x_d := x_x.lt
   have l_y_d := x_y.lt
   have e_d : w.heap.size ≤ v3.heap.size := hb.size
   have hb1 := below_alloc2 v3 (.cells #[.bool (ngB D), .slice A7 n7 c7] 25) (.cells #[.bool (ngB R), .slice A8 n8 c8] 25)
   have x_d := (Bx.new v3 (ngB D) A7 n7 c7).alloc (.cells #[.bool (ngB R), .slice A8 n8 c8] 25)
   have x_e : Bx ((v3.alloc (.cells #[.bool (ngB D), .slice A7 n7 c7] 25)).alloc (.cells #[.bool (ngB R), .slice A8 n8 c8] 25)) (v3.heap.size + 1) (ngB R) A8 n8 c8 := by have := Bx.new (v3.alloc (.cells #[.bool (ngB D), .slice A7 n7 c7] 25)) (ngB R) A8 n8 c8; simpa using this
   clear q_x q_y
   obtain ⟨x_a, x_b, x_x, x_y, h, h2, zq, zr⟩ := mv8 hb1 x_a x_b x_x x_y h h2 zq zr
   replace hb := bthen hb hb1
   clear hb1
   generalize (v3.alloc (.cells #[.bool (ngB D), .slice A7 n7 c7] 25)).alloc (.cells #[.bool (ngB R), .slice A8 n8 c8] 25) = v4 at *
   have q_x := x_x.al
   have q_y := x_y.al
   have q_d := x_d.al
   have q_e := x_e.al
   skip
   with_reducible refine (ZSign_any zr.zr (by omega)).mono ?_
   rintro e v5 ⟨rfl, hb1⟩
   obtain ⟨x_a, x_b, x_x, x_y, x_d, x_e, h, h2, zq⟩ := mv9 hb1 x_a x_b x_x x_y x_d x_e h h2 zq
   replace zr := zr.keep hb1
   replace hb := bthen hb hb1
   clear hb1
   replace q_x := x_x.al
   replace q_y := x_y.al
   replace q_d := x_d.al
   replace q_e := x_e.al
   rw [HR.out]
   go_wp2_with fail
   go_region_held3 (fun w' => w'.cell? ⟨v3.heap.size, 0, none⟩ = some (.bool (ngB D)) ∧ w'.cell? ⟨v3.heap.size, 1, none⟩ = some (.slice A7 n7 c7))
    (first | (with_reducible exact ⟨x_d.c0, x_d.c1⟩) | (with_reducible exact ⟨(x_d.aside (by omega)).c0, (x_d.aside (by omega)).c1⟩) | (with_reducible exact ⟨((x_d.aside (by omega)).aside (by omega)).c0, ((x_d.aside (by omega)).aside (by omega)).c1⟩) | (with_reducible exact ⟨(x_d.asideD (by omega)).c0, (x_d.asideD (by omega)).c1⟩) | (with_reducible exact ⟨((x_d.asideD (by omega)).asideD (by omega)).c0, ((x_d.asideD (by omega)).asideD (by omega)).c1⟩) | (with_reducible exact ⟨(x_d.asideL (by omega)).c0, (x_d.asideL (by omega)).c1⟩) | (with_reducible exact ⟨((x_d.asideL (by omega)).asideL (by omega)).c0, ((x_d.asideL (by omega)).asideL (by omega)).c1⟩) | go_keep)
    (first | (go_at_call 100; (with_reducible refine (ZOf_any 1 (by omega) (by omega)).mono ?_); rintro e v6 ⟨A9, n9, c9, rfl, zo, hb1⟩; replace hb1 := undrew hb1; obtain ⟨x_a, x_b, x_x, x_y, x_d, x_e, h, h2, zq⟩ := mv9 hb1 x_a x_b x_x x_y x_d x_e h h2 zq; replace zr := zr.keep hb1; replace hb := bthen hb hb1; clear hb1; replace q_x := x_x.al; replace q_y := x_y.al; replace q_d := x_d.al; replace q_e := x_e.al) | (go_at_call 102; (with_reducible refine (ZAdd_any zq.zr zo.zr k (by omega) (by omega) (by omega)).mono ?_); rintro e v7 ⟨A10, n10, c10, rfl, zs, hb1⟩; obtain ⟨x_a, x_b, x_x, x_y, x_d, x_e, h, h2, zq⟩ := mv9 hb1 x_a x_b x_x x_y x_d x_e h h2 zq; obtain ⟨zr, zo⟩ := mv2 hb1 zr zo; replace hb := bthen hb hb1; clear hb1; replace q_x := x_x.al; replace q_y := x_y.al; replace q_d := x_d.al; replace q_e := x_e.al))
   go_wp2
   replace x_a := x_a.aside (b' := (ngB D)) (A' := A7) (n' := n7) (c' := c7) (g := w.heap.size + 1 + 1) (by omega)
   replace x_b := x_b.aside (b' := (ngB D)) (A' := A7) (n' := n7) (c' := c7) (g := w.heap.size + 1 + 1) (by omega)
   replace x_y := x_y.aside (b' := (ngB D)) (A' := A7) (n' := n7) (c' := c7) (g := w.heap.size + 1 + 1) (by omega)
   replace x_d := x_d.aside (b' := (ngB D)) (A' := A7) (n' := n7) (c' := c7) (g := w.heap.size + 1 + 1) (by omega)
   replace x_e := x_e.aside (b' := (ngB D)) (A' := A7) (n' := n7) (c' := c7) (g := w.heap.size + 1 + 1) (by omega)
   replace h := h.put (b' := (ngB D)) (A' := A7) (n' := n7) (c' := c7) x_x
   replace h2 := h2.put (b' := (ngB D)) (A' := A7) (n' := n7) (c' := c7) x_x
   replace zq := zq.put (b' := (ngB D)) (A' := A7) (n' := n7) (c' := c7) x_x
   replace zr := zr.put (b' := (ngB D)) (A' := A7) (n' := n7) (c' := c7) x_x
   replace zo := zo.put (b' := (ngB D)) (A' := A7) (n' := n7) (c' := c7) x_x
   replace zs := zs.put (b' := (ngB D)) (A' := A7) (n' := n7) (c' := c7) x_x
   replace hb := put_below (g := w.heap.size + 1 + 1) hb (by omega) (.bool (ngB D)) (.slice A7 n7 c7)
   replace x_x := x_x.put (ngB D) A7 n7 c7
   clear q_x q_y q_d q_e
   generalize (v7.setCell ⟨w.heap.size + 1 + 1, 0, none⟩ (.bool (ngB D))).setCell ⟨w.heap.size + 1 + 1, 1, none⟩ (.slice A7 n7 c7) = v8 at *
   have q_x := x_x.al
   have q_y := x_y.al
   have q_d := x_d.al
   have q_e := x_e.al
   replace x_a := x_a.aside (b' := (ngB (D + 1))) (A' := A10) (n' := n10) (c' := c10) (g := w.heap.size + 1 + 1 + 1) (by omega)
   replace x_b := x_b.aside (b' := (ngB (D + 1))) (A' := A10) (n' := n10) (c' := c10) (g := w.heap.size + 1 + 1 + 1) (by omega)
   replace x_x := x_x.aside (b' := (ngB (D + 1))) (A' := A10) (n' := n10) (c' := c10) (g := w.heap.size + 1 + 1 + 1) (by omega)
   replace x_d := x_d.aside (b' := (ngB (D + 1))) (A' := A10) (n' := n10) (c' := c10) (g := w.heap.size + 1 + 1 + 1) (by omega)
   replace x_e := x_e.aside (b' := (ngB (D + 1))) (A' := A10) (n' := n10) (c' := c10) (g := w.heap.size + 1 + 1 + 1) (by omega)
   replace h := h.put (b' := (ngB (D + 1))) (A' := A10) (n' := n10) (c' := c10) x_y
   replace h2 := h2.put (b' := (ngB (D + 1))) (A' := A10) (n' := n10) (c' := c10) x_y
   replace zq := zq.put (b' := (ngB (D + 1))) (A' := A10) (n' := n10) (c' := c10) x_y
   replace zr := zr.put (b' := (ngB (D + 1))) (A' := A10) (n' := n10) (c' := c10) x_y
   replace zo := zo.put (b' := (ngB (D + 1))) (A' := A10) (n' := n10) (c' := c10) x_y
   replace zs := zs.put (b' := (ngB (D + 1))) (A' := A10) (n' := n10) (c' := c10) x_y
   replace hb := put_below (g := w.heap.size + 1 + 1 + 1) hb (by omega) (.bool (ngB (D + 1))) (.slice A10 n10 c10)
   replace x_y := x_y.put (ngB (D + 1)) A10 n10 c10
   clear q_x q_y q_d q_e
   generalize (v8.setCell ⟨w.heap.size + 1 + 1 + 1, 0, none⟩ (.bool (ngB (D + 1)))).setCell ⟨w.heap.size + 1 + 1 + 1, 1, none⟩ (.slice A10 n10 c10) = v9 at *
   have q_x := x_x.al
   have q_y := x_y.al
   have q_d := x_d.al
   have q_e := x_e.al
   refine bodyPost_ret (v := .tuple #[.agg #[.bool (ngB D), .slice A7 n7 c7], .agg #[.bool (ngB (D + 1)), .slice A10 n10 c10]]) (by simp [results, Tryz.results132, go_sem, q_x, q_y]) rfl ?_
   exact ⟨_, _, _, _, _, _, rfl, ⟨zq.1, by have := zq.2; omega⟩, zs, hb⟩

set_option maxRecDepth 100000 in
set_option maxHeartbeats 2000000 in
theorem atSub_any {b b2 : Bool} {A A2 : Option Addr} {n c n2 c2 : Nat} {X Y : Int} {j j2 : Nat} {w : World} (h : Zr w b A n c X j) (h2 : Zr w b2 A2 n2 c2 Y j2) (k : Nat) (hk : j + 1 ≤ k) (hk2 : j2 + 1 ≤ k) (hj : k ≤ 1000000) :
  Calls Tryz.prog 83 #[.agg #[.bool b, .slice A n c], .agg #[.bool b2, .slice A2 n2 c2]] w (Out2Z w (X - Y) (X - Y) k) := by
 go_enter Tryz.func83, Tryz.ntmps83
 go_wp2_with fail
 have x_a : Bx (w.alloc (.cells #[.bool b, .slice A n c] 25)) (w.heap.size) b A n c := by have := Bx.new w b A n c; simpa using this
 replace x_a := x_a.alloc (.cells #[.bool b2, .slice A2 n2 c2] 25)
 have x_b : Bx ((w.alloc (.cells #[.bool b, .slice A n c] 25)).alloc (.cells #[.bool b2, .slice A2 n2 c2] 25)) (w.heap.size + 1) b2 A2 n2 c2 := by have := Bx.new (w.alloc (.cells #[.bool b, .slice A n c] 25)) b2 A2 n2 c2; simpa using this
 replace x_a := x_a.alloc (.cells #[.bool false, .slice none 0 0] 25)
 replace x_b := x_b.alloc (.cells #[.bool false, .slice none 0 0] 25)
 have x_x : Bx (((w.alloc (.cells #[.bool b, .slice A n c] 25)).alloc (.cells #[.bool b2, .slice A2 n2 c2] 25)).alloc (.cells #[.bool false, .slice none 0 0] 25)) (w.heap.size + 1 + 1) false none 0 0 := by have := Bx.new ((w.alloc (.cells #[.bool b, .slice A n c] 25)).alloc (.cells #[.bool b2, .slice A2 n2 c2] 25)) false none 0 0; simpa using this
 replace x_a := x_a.alloc (.cells #[.bool false, .slice none 0 0] 25)
 replace x_b := x_b.alloc (.cells #[.bool false, .slice none 0 0] 25)
 replace x_x := x_x.alloc (.cells #[.bool false, .slice none 0 0] 25)
 have x_y : Bx ((((w.alloc (.cells #[.bool b, .slice A n c] 25)).alloc (.cells #[.bool b2, .slice A2 n2 c2] 25)).alloc (.cells #[.bool false, .slice none 0 0] 25)).alloc (.cells #[.bool false, .slice none 0 0] 25)) (w.heap.size + 1 + 1 + 1) false none 0 0 := by have := Bx.new (((w.alloc (.cells #[.bool b, .slice A n c] 25)).alloc (.cells #[.bool b2, .slice A2 n2 c2] 25)).alloc (.cells #[.bool false, .slice none 0 0] 25)) false none 0 0; simpa using this
 have hb : Below w.heap.size w ((((w.alloc (.cells #[.bool b, .slice A n c] 25)).alloc (.cells #[.bool b2, .slice A2 n2 c2] 25)).alloc (.cells #[.bool false, .slice none 0 0] 25)).alloc (.cells #[.bool false, .slice none 0 0] 25)) := (Below.alloc (Below.alloc (Below.alloc (Below.alloc (Below.refl w.heap.size w) (by simp) (.cells #[.bool b, .slice A n c] 25)) (by simp) (.cells #[.bool b2, .slice A2 n2 c2] 25)) (by simp; omega) (.cells #[.bool false, .slice none 0 0] 25)) (by simp; omega) (.cells #[.bool false, .slice none 0 0] 25))
 generalize (((w.alloc (.cells #[.bool b, .slice A n c] 25)).alloc (.cells #[.bool b2, .slice A2 n2 c2] 25)).alloc (.cells #[.bool false, .slice none 0 0] 25)).alloc (.cells #[.bool false, .slice none 0 0] 25) = v1 at *
 obtain ⟨h, h2⟩ := mv2 hb h h2
 have q_a := x_a.al
 have q_b := x_b.al
 have q_x := x_x.al
 have q_y := x_y.al
 go_wp2_with fail
 with_reducible refine (ZSub_any h h2 k hk hk2 hj).mono ?_
 rintro e v2 ⟨A7, n7, c7, rfl, zs, hb1⟩
 obtain ⟨x_a, x_b, x_x, x_y, h, h2⟩ := mv6 hb1 x_a x_b x_x x_y h h2
 replace hb := bthen hb hb1
 clear hb1
 replace q_a := x_a.al
 replace q_b := x_b.al
 replace q_x := x_x.al
 replace q_y := x_y.al
 have y_a := (x_a.alloc (.cells #[.bool (ngB (X - Y)), .slice A7 n7 c7] 25)); have yq_a0 := y_a.c0; have yq_a1 := y_a.c1
 have y_b := (x_b.alloc (.cells #[.bool (ngB (X - Y)), .slice A7 n7 c7] 25)); have yq_b0 := y_b.c0; have yq_b1 := y_b.c1
 have y_x := (x_x.alloc (.cells #[.bool (ngB (X - Y)), .slice A7 n7 c7] 25)); have yq_x0 := y_x.c0; have yq_x1 := y_x.c1
 have y_y := (x_y.alloc (.cells #[.bool (ngB (X - Y)), .slice A7 n7 c7] 25)); have yq_y0 := y_y.c0; have yq_y1 := y_y.c1
 go_wp2_with fail
 clear y_a yq_a0 yq_a1 y_b yq_b0 yq_b1 y_x yq_x0 yq_x1 y_y yq_y0 yq_y1
 have hb1 := below_alloc v2 (.cells #[.bool (ngB (X - Y)), .slice A7 n7 c7] 25)
 have l_a_s := x_a.lt
 have l_b_s := x_b.lt
 have l_x_s := x_x.lt
 have l_y_s := x_y.lt
 have x_s := Bx.new v2 (ngB (X - Y)) A7 n7 c7
 have e_s : w.heap.size ≤ v2.heap.size := hb.size
 clear q_a q_b q_x q_y
 obtain ⟨x_a, x_b, x_x, x_y, h, h2, zs⟩ := mv7 hb1 x_a x_b x_x x_y h h2 zs
 replace hb := bthen hb hb1
 clear hb1
 generalize v2.alloc (.cells #[.bool (ngB (X - Y)), .slice A7 n7 c7] 25) = v3 at *
 have q_a := x_a.al
 have q_b := x_b.al
 have q_x := x_x.al
 have q_y := x_y.al
 have q_s := x_s.al
 skip
 go_region_held3 (fun w' => w'.cell? ⟨v2.heap.size, 0, none⟩ = some (.bool (ngB (X - Y))) ∧ w'.cell? ⟨v2.heap.size, 1, none⟩ = some (.slice A7 n7 c7))
  (first | (with_reducible exact ⟨x_s.drew.c0, x_s.drew.c1⟩) | (with_reducible exact ⟨(x_s.aside (by omega)).drew.c0, (x_s.aside (by omega)).drew.c1⟩) | (with_reducible exact ⟨((x_s.aside (by omega)).aside (by omega)).drew.c0, ((x_s.aside (by omega)).aside (by omega)).drew.c1⟩) | go_keep)
  (first | fail)
 skip
 replace x_a := x_a.aside (b' := (ngB (X - Y))) (A' := A7) (n' := n7) (c' := c7) (g := w.heap.size + 1 + 1) (by omega)
 replace x_b := x_b.aside (b' := (ngB (X - Y))) (A' := A7) (n' := n7) (c' := c7) (g := w.heap.size + 1 + 1) (by omega)
 replace x_y := x_y.aside (b' := (ngB (X - Y))) (A' := A7) (n' := n7) (c' := c7) (g := w.heap.size + 1 + 1) (by omega)
 replace x_s := x_s.aside (b' := (ngB (X - Y))) (A' := A7) (n' := n7) (c' := c7) (g := w.heap.size + 1 + 1) (by omega)
 replace h := h.put (b' := (ngB (X - Y))) (A' := A7) (n' := n7) (c' := c7) x_x
 replace h2 := h2.put (b' := (ngB (X - Y))) (A' := A7) (n' := n7) (c' := c7) x_x
 replace zs := zs.put (b' := (ngB (X - Y))) (A' := A7) (n' := n7) (c' := c7) x_x
 replace hb := put_below (g := w.heap.size + 1 + 1) hb (by omega) (.bool (ngB (X - Y))) (.slice A7 n7 c7)
 replace x_x := x_x.put (ngB (X - Y)) A7 n7 c7
 clear q_a q_b q_x q_y q_s
 generalize (v3.setCell ⟨w.heap.size + 1 + 1, 0, none⟩ (.bool (ngB (X - Y)))).setCell ⟨w.heap.size + 1 + 1, 1, none⟩ (.slice A7 n7 c7) = v4 at *
 have q_a := x_a.al
 have q_b := x_b.al
 have q_x := x_x.al
 have q_y := x_y.al
 have q_s := x_s.al
 replace x_a := x_a.aside (b' := (ngB (X - Y))) (A' := A7) (n' := n7) (c' := c7) (g := w.heap.size + 1 + 1 + 1) (by omega)
 replace x_b := x_b.aside (b' := (ngB (X - Y))) (A' := A7) (n' := n7) (c' := c7) (g := w.heap.size + 1 + 1 + 1) (by omega)
 replace x_x := x_x.aside (b' := (ngB (X - Y))) (A' := A7) (n' := n7) (c' := c7) (g := w.heap.size + 1 + 1 + 1) (by omega)
 replace x_s := x_s.aside (b' := (ngB (X - Y))) (A' := A7) (n' := n7) (c' := c7) (g := w.heap.size + 1 + 1 + 1) (by omega)
 replace h := h.put (b' := (ngB (X - Y))) (A' := A7) (n' := n7) (c' := c7) x_y
 replace h2 := h2.put (b' := (ngB (X - Y))) (A' := A7) (n' := n7) (c' := c7) x_y
 replace zs := zs.put (b' := (ngB (X - Y))) (A' := A7) (n' := n7) (c' := c7) x_y
 replace hb := put_below (g := w.heap.size + 1 + 1 + 1) hb (by omega) (.bool (ngB (X - Y))) (.slice A7 n7 c7)
 replace x_y := x_y.put (ngB (X - Y)) A7 n7 c7
 clear q_a q_b q_x q_y q_s
 generalize (v4.setCell ⟨w.heap.size + 1 + 1 + 1, 0, none⟩ (.bool (ngB (X - Y)))).setCell ⟨w.heap.size + 1 + 1 + 1, 1, none⟩ (.slice A7 n7 c7) = v5 at *
 have q_a := x_a.al
 have q_b := x_b.al
 have q_x := x_x.al
 have q_y := x_y.al
 have q_s := x_s.al
 replace x_a := x_a.drew
 replace x_b := x_b.drew
 replace x_x := x_x.drew
 replace x_y := x_y.drew
 replace x_s := x_s.drew
 replace h := h.drw
 replace h2 := h2.drw
 replace zs := zs.drw
 replace hb := below_drew hb
 clear q_a q_b q_x q_y q_s
 generalize v5.drew = v6 at *
 have q_a := x_a.al
 have q_b := x_b.al
 have q_x := x_x.al
 have q_y := x_y.al
 have q_s := x_s.al
 go_wp2
 refine bodyPost_ret (v := .tuple #[.agg #[.bool (ngB (X - Y)), .slice A7 n7 c7], .agg #[.bool (ngB (X - Y)), .slice A7 n7 c7]]) (by simp [results, Tryz.results83, go_sem, q_x, q_y]) rfl ?_
 exact ⟨_, _, _, _, _, _, rfl, zs, zs, hb⟩

set_option maxRecDepth 100000 in
set_option maxHeartbeats 4000000 in
theorem atDiv_any {b b2 : Bool} {A A2 : Option Addr} {n c n2 c2 : Nat} {X Y : Int} {j j2 : Nat} {w : World} (h : Zr w b A n c X j) (h2 : Zr w b2 A2 n2 c2 Y j2) {g : Nat} {b3 b4 : Bool} {A3 A4 : Option Addr} {n3 c3 n4 c4 : Nat} {q : Int} (x_cap : Lx w g b3 A3 n3 c3 b4 A4 n4 c4 q) (hq : 0 ≤ q ∧ q ≤ 2048) (hY : Y ≠ 0) (k : Nat) (hk : j + 130 ≤ k) (hk2 : j2 + 1 ≤ k) (hj : k ≤ 1000000) :
  Calls Tryz.prog 131 #[.agg #[.bool b, .slice A n c], .agg #[.bool b2, .slice A2 n2 c2], .pointer (some ⟨g, 0, none⟩)] w (Out2Z w (fdI (X * 2 ^ q.toNat) Y) (cdI (X * 2 ^ q.toNat) Y) k) := by
 have hsc : X * 2 ^ sc q = X * 2 ^ q.toNat := by rw [sc_toNat hq.1 (by omega)]
 obtain ⟨Z, hZ⟩ : ∃ Z, X * 2 ^ q.toNat = Z := ⟨_, rfl⟩
 rw [hZ] at hsc ⊢
 have HSC := Lib.hid hsc; clear hsc hZ
 have hl_cap := x_cap.lt
 go_enter Tryz.func131, Tryz.ntmps131
 go_wp2_with fail
 have x_a : Bx (w.alloc (.cells #[.bool b, .slice A n c] 25)) (w.heap.size) b A n c := by have := Bx.new w b A n c; simpa using this
 replace x_a := x_a.alloc (.cells #[.bool b2, .slice A2 n2 c2] 25)
 have x_b : Bx ((w.alloc (.cells #[.bool b, .slice A n c] 25)).alloc (.cells #[.bool b2, .slice A2 n2 c2] 25)) (w.heap.size + 1) b2 A2 n2 c2 := by have := Bx.new (w.alloc (.cells #[.bool b, .slice A n c] 25)) b2 A2 n2 c2; simpa using this
 replace x_a := x_a.alloc (.cells #[.bool false, .slice none 0 0] 25)
 replace x_b := x_b.alloc (.cells #[.bool false, .slice none 0 0] 25)
 have x_x : Bx (((w.alloc (.cells #[.bool b, .slice A n c] 25)).alloc (.cells #[.bool b2, .slice A2 n2 c2] 25)).alloc (.cells #[.bool false, .slice none 0 0] 25)) (w.heap.size + 1 + 1) false none 0 0 := by have := Bx.new ((w.alloc (.cells #[.bool b, .slice A n c] 25)).alloc (.cells #[.bool b2, .slice A2 n2 c2] 25)) false none 0 0; simpa using this
 replace x_a := x_a.alloc (.cells #[.bool false, .slice none 0 0] 25)
 replace x_b := x_b.alloc (.cells #[.bool false, .slice none 0 0] 25)
 replace x_x := x_x.alloc (.cells #[.bool false, .slice none 0 0] 25)
 have x_y : Bx ((((w.alloc (.cells #[.bool b, .slice A n c] 25)).alloc (.cells #[.bool b2, .slice A2 n2 c2] 25)).alloc (.cells #[.bool false, .slice none 0 0] 25)).alloc (.cells #[.bool false, .slice none 0 0] 25)) (w.heap.size + 1 + 1 + 1) false none 0 0 := by have := Bx.new (((w.alloc (.cells #[.bool b, .slice A n c] 25)).alloc (.cells #[.bool b2, .slice A2 n2 c2] 25)).alloc (.cells #[.bool false, .slice none 0 0] 25)) false none 0 0; simpa using this
 have hb : Below w.heap.size w ((((w.alloc (.cells #[.bool b, .slice A n c] 25)).alloc (.cells #[.bool b2, .slice A2 n2 c2] 25)).alloc (.cells #[.bool false, .slice none 0 0] 25)).alloc (.cells #[.bool false, .slice none 0 0] 25)) := (Below.alloc (Below.alloc (Below.alloc (Below.alloc (Below.refl w.heap.size w) (by simp) (.cells #[.bool b, .slice A n c] 25)) (by simp) (.cells #[.bool b2, .slice A2 n2 c2] 25)) (by simp; omega) (.cells #[.bool false, .slice none 0 0] 25)) (by simp; omega) (.cells #[.bool false, .slice none 0 0] 25))
 generalize (((w.alloc (.cells #[.bool b, .slice A n c] 25)).alloc (.cells #[.bool b2, .slice A2 n2 c2] 25)).alloc (.cells #[.bool false, .slice none 0 0] 25)).alloc (.cells #[.bool false, .slice none 0 0] 25) = v1 at *
 obtain ⟨h, h2, x_cap⟩ := mv3 hb h h2 x_cap
 have q_a := x_a.al
 have q_b := x_b.al
 have q_x := x_x.al
 have q_y := x_y.al
 have q_cap := x_cap.al
 go_wp2_with fail
 go_region_held3 (fun w' => w'.cell? ⟨w.heap.size, 0, none⟩ = some (.bool b) ∧ w'.cell? ⟨w.heap.size, 1, none⟩ = some (.slice A n c) ∧ w'.cell? ⟨w.heap.size + 1, 0, none⟩ = some (.bool b2) ∧ w'.cell? ⟨w.heap.size + 1, 1, none⟩ = some (.slice A2 n2 c2) ∧ w'.cell? ⟨g, 0, none⟩ = some (.bool b3) ∧ w'.cell? ⟨g, 1, none⟩ = some (.slice A3 n3 c3) ∧ w'.cell? ⟨g, 2, none⟩ = some (.bool b4) ∧ w'.cell? ⟨g, 3, none⟩ = some (.slice A4 n4 c4) ∧ w'.cell? ⟨g, 4, none⟩ = some (.int .i64 q))
  (first | (with_reducible exact ⟨x_a.c0, x_a.c1, x_b.c0, x_b.c1, x_cap.c0, x_cap.c1, x_cap.c2, x_cap.c3, x_cap.c4⟩) | (with_reducible exact ⟨(x_a.aside (by omega)).c0, (x_a.aside (by omega)).c1, (x_b.aside (by omega)).c0, (x_b.aside (by omega)).c1, (x_cap.aside (by omega)).c0, (x_cap.aside (by omega)).c1, (x_cap.aside (by omega)).c2, (x_cap.aside (by omega)).c3, (x_cap.aside (by omega)).c4⟩) | (with_reducible exact ⟨((x_a.aside (by omega)).aside (by omega)).c0, ((x_a.aside (by omega)).aside (by omega)).c1, ((x_b.aside (by omega)).aside (by omega)).c0, ((x_b.aside (by omega)).aside (by omega)).c1, ((x_cap.aside (by omega)).aside (by omega)).c0, ((x_cap.aside (by omega)).aside (by omega)).c1, ((x_cap.aside (by omega)).aside (by omega)).c2, ((x_cap.aside (by omega)).aside (by omega)).c3, ((x_cap.aside (by omega)).aside (by omega)).c4⟩) | (with_reducible exact ⟨(x_a.asideD (by omega)).c0, (x_a.asideD (by omega)).c1, (x_b.asideD (by omega)).c0, (x_b.asideD (by omega)).c1, (x_cap.asideD (by omega)).c0, (x_cap.asideD (by omega)).c1, (x_cap.asideD (by omega)).c2, (x_cap.asideD (by omega)).c3, (x_cap.asideD (by omega)).c4⟩) | (with_reducible exact ⟨((x_a.asideD (by omega)).asideD (by omega)).c0, ((x_a.asideD (by omega)).asideD (by omega)).c1, ((x_b.asideD (by omega)).asideD (by omega)).c0, ((x_b.asideD (by omega)).asideD (by omega)).c1, ((x_cap.asideD (by omega)).asideD (by omega)).c0, ((x_cap.asideD (by omega)).asideD (by omega)).c1, ((x_cap.asideD (by omega)).asideD (by omega)).c2, ((x_cap.asideD (by omega)).asideD (by omega)).c3, ((x_cap.asideD (by omega)).asideD (by omega)).c4⟩) | (with_reducible exact ⟨(x_a.asideL (by omega)).c0, (x_a.asideL (by omega)).c1, (x_b.asideL (by omega)).c0, (x_b.asideL (by omega)).c1, (x_cap.asideL (by omega)).c0, (x_cap.asideL (by omega)).c1, (x_cap.asideL (by omega)).c2, (x_cap.asideL (by omega)).c3, (x_cap.asideL (by omega)).c4⟩) | (with_reducible exact ⟨((x_a.asideL (by omega)).asideL (by omega)).c0, ((x_a.asideL (by omega)).asideL (by omega)).c1, ((x_b.asideL (by omega)).asideL (by omega)).c0, ((x_b.asideL (by omega)).asideL (by omega)).c1, ((x_cap.asideL (by omega)).asideL (by omega)).c0, ((x_cap.asideL (by omega)).asideL (by omega)).c1, ((x_cap.asideL (by omega)).asideL (by omega)).c2, ((x_cap.asideL (by omega)).asideL (by omega)).c3, ((x_cap.asideL (by omega)).asideL (by omega)).c4⟩) | go_keep)
  (first | (go_at_call 99; (with_reducible refine (ZShl_any h.drw q (j + 128) (Nat.le_refl _) (by omega)).mono ?_); rintro e v2 ⟨A7, n7, c7, rfl, zm, hb1⟩; replace hb1 := undrew hb1; obtain ⟨x_a, x_b, x_x, x_y, x_cap, h, h2⟩ := mv7 hb1 x_a x_b x_x x_y x_cap h h2; replace hb := bthen hb hb1; clear hb1; replace q_a := x_a.al; replace q_b := x_b.al; replace q_x := x_x.al; replace q_y := x_y.al; replace q_cap := x_cap.al; rw [HSC.out] at zm ⊢) | (go_at_call 132; (with_reducible refine (divide_any zm.zr h2 hY k (by omega) hk2 hj).mono ?_); rintro e v3 ⟨A5, n5, c5, A6, n6, c6, rfl, z5, z6, hb1⟩; obtain ⟨x_a, x_b, x_x, x_y, x_cap, h, h2, zm⟩ := mv8 hb1 x_a x_b x_x x_y x_cap h h2 zm; replace hb := bthen hb hb1; clear hb1; replace q_a := x_a.al; replace q_b := x_b.al; replace q_x := x_x.al; replace q_y := x_y.al; replace q_cap := x_cap.al))
 go_wp2
 replace x_a := x_a.aside (b' := (ngB (fdI Z Y))) (A' := A5) (n' := n5) (c' := c5) (g := w.heap.size + 1 + 1) (by omega)
 replace x_b := x_b.aside (b' := (ngB (fdI Z Y))) (A' := A5) (n' := n5) (c' := c5) (g := w.heap.size + 1 + 1) (by omega)
 replace x_y := x_y.aside (b' := (ngB (fdI Z Y))) (A' := A5) (n' := n5) (c' := c5) (g := w.heap.size + 1 + 1) (by omega)
 replace x_cap := x_cap.aside (b' := (ngB (fdI Z Y))) (A' := A5) (n' := n5) (c' := c5) (g := w.heap.size + 1 + 1) (by omega)
 replace h := h.put (b' := (ngB (fdI Z Y))) (A' := A5) (n' := n5) (c' := c5) x_x
 replace h2 := h2.put (b' := (ngB (fdI Z Y))) (A' := A5) (n' := n5) (c' := c5) x_x
 replace zm := zm.put (b' := (ngB (fdI Z Y))) (A' := A5) (n' := n5) (c' := c5) x_x
 replace z5 := z5.put (b' := (ngB (fdI Z Y))) (A' := A5) (n' := n5) (c' := c5) x_x
 replace z6 := z6.put (b' := (ngB (fdI Z Y))) (A' := A5) (n' := n5) (c' := c5) x_x
 replace hb := put_below (g := w.heap.size + 1 + 1) hb (by omega) (.bool (ngB (fdI Z Y))) (.slice A5 n5 c5)
 replace x_x := x_x.put (ngB (fdI Z Y)) A5 n5 c5
 clear q_a q_b q_x q_y q_cap
 generalize (v3.setCell ⟨w.heap.size + 1 + 1, 0, none⟩ (.bool (ngB (fdI Z Y)))).setCell ⟨w.heap.size + 1 + 1, 1, none⟩ (.slice A5 n5 c5) = v4 at *
 have q_a := x_a.al
 have q_b := x_b.al
 have q_x := x_x.al
 have q_y := x_y.al
 have q_cap := x_cap.al
 replace x_a := x_a.aside (b' := (ngB (cdI Z Y))) (A' := A6) (n' := n6) (c' := c6) (g := w.heap.size + 1 + 1 + 1) (by omega)
 replace x_b := x_b.aside (b' := (ngB (cdI Z Y))) (A' := A6) (n' := n6) (c' := c6) (g := w.heap.size + 1 + 1 + 1) (by omega)
 replace x_x := x_x.aside (b' := (ngB (cdI Z Y))) (A' := A6) (n' := n6) (c' := c6) (g := w.heap.size + 1 + 1 + 1) (by omega)
 replace x_cap := x_cap.aside (b' := (ngB (cdI Z Y))) (A' := A6) (n' := n6) (c' := c6) (g := w.heap.size + 1 + 1 + 1) (by omega)
 replace h := h.put (b' := (ngB (cdI Z Y))) (A' := A6) (n' := n6) (c' := c6) x_y
 replace h2 := h2.put (b' := (ngB (cdI Z Y))) (A' := A6) (n' := n6) (c' := c6) x_y
 replace zm := zm.put (b' := (ngB (cdI Z Y))) (A' := A6) (n' := n6) (c' := c6) x_y
 replace z5 := z5.put (b' := (ngB (cdI Z Y))) (A' := A6) (n' := n6) (c' := c6) x_y
 replace z6 := z6.put (b' := (ngB (cdI Z Y))) (A' := A6) (n' := n6) (c' := c6) x_y
 replace hb := put_below (g := w.heap.size + 1 + 1 + 1) hb (by omega) (.bool (ngB (cdI Z Y))) (.slice A6 n6 c6)
 replace x_y := x_y.put (ngB (cdI Z Y)) A6 n6 c6
 clear q_a q_b q_x q_y q_cap
 generalize (v4.setCell ⟨w.heap.size + 1 + 1 + 1, 0, none⟩ (.bool (ngB (cdI Z Y)))).setCell ⟨w.heap.size + 1 + 1 + 1, 1, none⟩ (.slice A6 n6 c6) = v5 at *
 have q_a := x_a.al
 have q_b := x_b.al
 have q_x := x_x.al
 have q_y := x_y.al
 have q_cap := x_cap.al
 refine bodyPost_ret (v := .tuple #[.agg #[.bool (ngB (fdI Z Y)), .slice A5 n5 c5], .agg #[.bool (ngB (cdI Z Y)), .slice A6 n6 c6]]) (by simp [results, Tryz.results131, go_sem, q_x, q_y]) rfl ?_
 exact ⟨_, _, _, _, _, _, rfl, z5, z6, hb⟩

end Go.Proofs.YtiikmjnnlckiiaaGreat
