/-
 ball: divide, and the closures of Add, Sub, Mul, Div.
-/
import Derived.Test.YtdonaominffpnaaGreatDoorLpoint
import Derived.Test.YtdonaominffpnaaGreatDoorEbox
namespace Go.Proofs.YtdonaominffpnaaGreatDoor
variable {A A2 : Option Addr} {X Y x y : Int} {b b2 : Bool} {c c2 j j2 n n2 : Nat} {w : World}
set_option maxRecDepth 100000
set_option maxHeartbeats 4000000
set_option linter.unusedVariables false
open Go.RowKit
theorem cd_pos (h : 0 < y) : -((-x) / y) = if x % y = 0 then x / y else x / y + 1 := by
 have h1 := Int.emod_add_mul_ediv x y
 have h2 := Int.emod_nonneg x (show y ≠ 0 by omega)
 have h3 := Int.emod_lt_of_pos x h
 split
 ·rename_i h0
  have e : -x = y * (-(x / y)) := by rw [Int.mul_neg]; omega
  rw [e, Int.mul_ediv_cancel_left _ (by omega)]
  omega
 ·rename_i h0
  have e : -x = (y - x % y) + y * (-(x / y) - 1) := by rw [Int.mul_sub, Int.mul_neg, Int.mul_one]; omega
  rw [e, Int.add_mul_ediv_left _ _ (by omega), Int.ediv_eq_zero_of_lt (by omega) (by omega)]
  omega
theorem fd_pos (h : 0 < y) : fdI x y = x / y ∧ cdI x y = if x % y = 0 then x / y else x / y + 1 := by
 unfold cdI fdI
 rw [if_neg (by omega), if_neg (by omega), cd_pos h]
 exact ⟨rfl, rfl⟩
theorem fd_neg (h : y < 0) : fdI x y = (-x) / (-y) ∧ cdI x y = if (-x) % (-y) = 0 then (-x) / (-y) else (-x) / (-y) + 1 := by
 unfold cdI fdI
 rw [if_pos h, if_pos h, ← cd_pos (by omega)]
 exact ⟨rfl, rfl⟩
theorem sgn_p (h : 0 < X) : sgnI X = 1 := by unfold sgnI; rw [if_neg (by omega), if_neg (by omega)]
theorem sgn_m (h : X < 0) : sgnI X = -1 := by unfold sgnI; rw [if_pos h]
theorem divide_any (h : Zr w b A n c X j) (h2 : Zr w b2 A2 n2 c2 Y j2) (hY : Y ≠ 0) (k : Nat) (hk : j + 2 ≤ k) (hk2 : j2 + 1 ≤ k) (hj : k ≤ 1000000) :
  Calls Tryz.prog 222 #[.agg #[.bool b, .slice A n c], .agg #[.bool b2, .slice A2 n2 c2]] w (Out2Z w (fdI X Y) (cdI X Y) k) := by
 rcases (show Y < 0 ∨ 0 < Y by omega) with hs | hs
 ·obtain ⟨f1, f2⟩ := fd_neg (x := X) hs
  have HS := Lib.hid (sgn_m hs)
  rw [f1, f2]
  clear f1 f2
  have hr0 := Int.emod_nonneg (-X) (show (-Y) ≠ 0 by omega)
  by_cases hr : (-X) % (-Y) = 0
  ·rw [if_pos hr]
   have HR : Hid (sgnI ((-X) % (-Y)) = 0) := Lib.hid (by rw [hr]; rfl)
   have hd0 : (-Y) ≠ 0 := by omega
   have HD := Lib.hid hd0; clear hd0 hr hr0 hs
   obtain ⟨D, hD⟩ : ∃ D, (-X) / (-Y) = D := ⟨_, rfl⟩
   obtain ⟨R, hR⟩ : ∃ R, (-X) % (-Y) = R := ⟨_, rfl⟩
   rw [hD]
   rw [hR] at HR
   have HDD := Lib.hid hD; have HRR := Lib.hid hR; clear hD hR
   go_enter Tryz.func222, Tryz.ntmps222
   go_wp2_with fail
   refine al4c fun v1 hb x_a x_b x_x x_y => ?_
   replace x_a := Bx.of x_a; replace x_b := Bx.of x_b; replace x_x := Bx.of x_x; replace x_y := Bx.of x_y
   obtain ⟨h, h2⟩ := mv2 hb h h2
   have q_a := x_a.al
   have q_b := x_b.al
   have q_x := x_x.al
   have q_y := x_y.al
   go_wp2_with fail
   with_reducible refine (ZSign_any h2 (by omega)).mono ?_
   rintro e v2 ⟨rfl, hb1⟩
   obtain ⟨x_a, x_b, x_x, x_y, h, h2, hb⟩ := mv7 hb1 x_a x_b x_x x_y h h2 hb
   clear hb1
   replace q_a := x_a.al
   replace q_b := x_b.al
   replace q_x := x_x.al
   replace q_y := x_y.al
   rw [HS.out]
   go_wp2_with fail
   go_region_with ((first | (go_at_call 167; (with_reducible refine (ZNeg_any h.drw j (Nat.le_refl _)).mono ?_); rintro e v3 ⟨A5, n5, c5, rfl, za, hb1⟩; replace hb1 := undrew hb1; obtain ⟨x_a, x_b, x_x, x_y, h, h2, hb⟩ := mv7 hb1 x_a x_b x_x x_y h h2 hb; clear hb1; replace q_a := x_a.al; replace q_b := x_b.al; replace q_x := x_x.al; replace q_y := x_y.al) | (go_at_call 167; (with_reducible refine (ZNeg_any h2 j2 (Nat.le_refl _)).mono ?_); rintro e v4 ⟨A6, n6, c6, rfl, zb, hb1⟩; obtain ⟨x_a, x_b, x_x, x_y, h, h2, za, hb⟩ := mv8 hb1 x_a x_b x_x x_y h h2 za hb; clear hb1; replace q_a := x_a.al; replace q_b := x_b.al; replace q_x := x_x.al; replace q_y := x_y.al)))
   all_goals
    skip
    clear q_a q_b q_x q_y
    refine x_a.st2 x_b (by omega) fun _ v5 hs hs2 hx hy => ?_
    obtain ⟨x_x, x_y, h, h2, za, zb, hb⟩ := ms7 hs ⟨by omega, by omega, trivial, trivial, trivial, trivial, by omega⟩ x_x x_y h h2 za zb hb
    obtain ⟨x_x, x_y, h, h2, za, zb, hb⟩ := ms7 hs2 ⟨by omega, by omega, trivial, trivial, trivial, trivial, by omega⟩ x_x x_y h h2 za zb hb
    replace x_a := hx; replace x_b := hy; clear hx hy hs hs2
    have q_a := x_a.al
    have q_b := x_b.al
    have q_x := x_x.al
    have q_y := x_y.al
    go_wp2_with fail
    with_reducible refine (ZDivMod_any za.zr zb.zr HD.out (k - 1) (by omega) (by omega) (by omega)).mono ?_
    rintro e v6 ⟨A7, n7, c7, A8, n8, c8, rfl, zq, zr, hb1⟩
    obtain ⟨x_a, x_b, x_x, x_y, h, h2, za, zb, hb⟩ := mv9 hb1 x_a x_b x_x x_y h h2 za zb hb
    clear hb1
    replace q_a := x_a.al
    replace q_b := x_b.al
    replace q_x := x_x.al
    replace q_y := x_y.al
    rw [HDD.out] at zq
    rw [HRR.out] at zr
    rw [HDD.out, HRR.out]
    clear q_a
    clear q_b
    have y_x := (((x_x.alloc (.cells #[.bool (ngB D), .slice A7 n7 c7] 24)).alloc (.cells #[.bool (ngB R), .slice A8 n8 c8] 24))).al
    have y_y := (((x_y.alloc (.cells #[.bool (ngB D), .slice A7 n7 c7] 24)).alloc (.cells #[.bool (ngB R), .slice A8 n8 c8] 24))).al
    go_wp2_with fail
    clear y_x y_y
    have l_a_d := x_a.lt
    have l_b_d := x_b.lt
    have l_x_d := x_x.lt
    have l_y_d := x_y.lt
    have e_d : w.heap.size ≤ v6.heap.size := hb.size
    clear q_x q_y
    refine al2c fun v7 hb1 x_d x_e => ?_
    replace x_d := Bx.of x_d; replace x_e := Bx.of x_e
    obtain ⟨x_a, x_b, x_x, x_y, h, h2, za, zb, zq⟩ := mv9 hb1 x_a x_b x_x x_y h h2 za zb zq
    obtain ⟨zr, hb⟩ := mv2 hb1 zr hb
    clear hb1
    have q_x := x_x.al
    have q_y := x_y.al
    have q_d := x_d.al
    have q_e := x_e.al
    skip
    with_reducible refine (ZSign_any zr.zr (by omega)).mono ?_
    rintro e v8 ⟨rfl, hb1⟩
    obtain ⟨x_a, x_b, x_x, x_y, x_d, x_e, h, h2, za⟩ := mv9 hb1 x_a x_b x_x x_y x_d x_e h h2 za
    obtain ⟨zb, zq, zr, hb⟩ := mv4 hb1 zb zq zr hb
    clear hb1
    replace q_x := x_x.al
    replace q_y := x_y.al
    replace q_d := x_d.al
    replace q_e := x_e.al
    rw [HR.out]
    go_wp2_with fail
    go_region_held3 (fun w' => w'.cell? ⟨v6.heap.size, 0, none⟩ = some (.bool (ngB D)) ∧ w'.cell? ⟨v6.heap.size, 1, none⟩ = some (.slice A7 n7 c7))
     (first | (with_reducible exact ⟨x_d.drew.c0, x_d.drew.c1⟩) | (with_reducible exact ⟨(x_d.aside (by omega)).drew.c0, (x_d.aside (by omega)).drew.c1⟩) | (with_reducible exact ⟨((x_d.aside (by omega)).aside (by omega)).drew.c0, ((x_d.aside (by omega)).aside (by omega)).drew.c1⟩) | go_keep)
     (first | fail)
    skip
    replace x_a := x_a.aside (b' := (ngB D)) (A' := A7) (n' := n7) (c' := c7) (g := w.heap.size + 1 + 1) (by omega)
    replace x_b := x_b.aside (b' := (ngB D)) (A' := A7) (n' := n7) (c' := c7) (g := w.heap.size + 1 + 1) (by omega)
    replace x_y := x_y.aside (b' := (ngB D)) (A' := A7) (n' := n7) (c' := c7) (g := w.heap.size + 1 + 1) (by omega)
    replace x_d := x_d.aside (b' := (ngB D)) (A' := A7) (n' := n7) (c' := c7) (g := w.heap.size + 1 + 1) (by omega)
    replace x_e := x_e.aside (b' := (ngB D)) (A' := A7) (n' := n7) (c' := c7) (g := w.heap.size + 1 + 1) (by omega)
    replace h := h.put (b' := (ngB D)) (A' := A7) (n' := n7) (c' := c7) x_x
    replace h2 := h2.put (b' := (ngB D)) (A' := A7) (n' := n7) (c' := c7) x_x
    replace za := za.put (b' := (ngB D)) (A' := A7) (n' := n7) (c' := c7) x_x
    replace zb := zb.put (b' := (ngB D)) (A' := A7) (n' := n7) (c' := c7) x_x
    replace zq := zq.put (b' := (ngB D)) (A' := A7) (n' := n7) (c' := c7) x_x
    replace zr := zr.put (b' := (ngB D)) (A' := A7) (n' := n7) (c' := c7) x_x
    replace hb := put_below (g := w.heap.size + 1 + 1) hb (by omega) (.bool (ngB D)) (.slice A7 n7 c7)
    replace x_x := x_x.put (ngB D) A7 n7 c7
    clear q_x q_y q_d q_e
    generalize (v8.setCell ⟨w.heap.size + 1 + 1, 0, none⟩ (.bool (ngB D))).setCell ⟨w.heap.size + 1 + 1, 1, none⟩ (.slice A7 n7 c7) = v9 at *
    have q_x := x_x.al
    have q_y := x_y.al
    have q_d := x_d.al
    have q_e := x_e.al
    replace x_a := x_a.aside (b' := (ngB D)) (A' := A7) (n' := n7) (c' := c7) (g := w.heap.size + 1 + 1 + 1) (by omega)
    replace x_b := x_b.aside (b' := (ngB D)) (A' := A7) (n' := n7) (c' := c7) (g := w.heap.size + 1 + 1 + 1) (by omega)
    replace x_x := x_x.aside (b' := (ngB D)) (A' := A7) (n' := n7) (c' := c7) (g := w.heap.size + 1 + 1 + 1) (by omega)
    replace x_d := x_d.aside (b' := (ngB D)) (A' := A7) (n' := n7) (c' := c7) (g := w.heap.size + 1 + 1 + 1) (by omega)
    replace x_e := x_e.aside (b' := (ngB D)) (A' := A7) (n' := n7) (c' := c7) (g := w.heap.size + 1 + 1 + 1) (by omega)
    replace h := h.put (b' := (ngB D)) (A' := A7) (n' := n7) (c' := c7) x_y
    replace h2 := h2.put (b' := (ngB D)) (A' := A7) (n' := n7) (c' := c7) x_y
    replace za := za.put (b' := (ngB D)) (A' := A7) (n' := n7) (c' := c7) x_y
    replace zb := zb.put (b' := (ngB D)) (A' := A7) (n' := n7) (c' := c7) x_y
    replace zq := zq.put (b' := (ngB D)) (A' := A7) (n' := n7) (c' := c7) x_y
    replace zr := zr.put (b' := (ngB D)) (A' := A7) (n' := n7) (c' := c7) x_y
    replace hb := put_below (g := w.heap.size + 1 + 1 + 1) hb (by omega) (.bool (ngB D)) (.slice A7 n7 c7)
    replace x_y := x_y.put (ngB D) A7 n7 c7
    clear q_x q_y q_d q_e
    generalize (v9.setCell ⟨w.heap.size + 1 + 1 + 1, 0, none⟩ (.bool (ngB D))).setCell ⟨w.heap.size + 1 + 1 + 1, 1, none⟩ (.slice A7 n7 c7) = v10 at *
    have q_x := x_x.al
    have q_y := x_y.al
    have q_d := x_d.al
    have q_e := x_e.al
    replace x_a := x_a.drew
    replace x_b := x_b.drew
    replace x_x := x_x.drew
    replace x_y := x_y.drew
    replace x_d := x_d.drew
    replace x_e := x_e.drew
    replace h := h.drw
    replace h2 := h2.drw
    replace za := za.drw
    replace zb := zb.drw
    replace zq := zq.drw
    replace zr := zr.drw
    replace hb := below_drew hb
    clear q_x q_y q_d q_e
    generalize v10.drew = v11 at *
    have q_x := x_x.al
    have q_y := x_y.al
    have q_d := x_d.al
    have q_e := x_e.al
    go_wp2
    refine bodyPost_ret (v := .tuple #[.agg #[.bool (ngB D), .slice A7 n7 c7], .agg #[.bool (ngB D), .slice A7 n7 c7]]) (by simp [results, Tryz.results222, go_sem, q_x, q_y]) rfl ?_
    exact ⟨_, _, _, _, _, _, rfl, ⟨zq.1, by have := zq.2; omega⟩, ⟨zq.1, by have := zq.2; omega⟩, hb⟩
  ·rw [if_neg hr]
   have HR : Hid (sgnI ((-X) % (-Y)) = 1) := Lib.hid (sgn_p (by omega))
   have hd0 : (-Y) ≠ 0 := by omega
   have HD := Lib.hid hd0; clear hd0 hr hr0 hs
   obtain ⟨D, hD⟩ : ∃ D, (-X) / (-Y) = D := ⟨_, rfl⟩
   obtain ⟨R, hR⟩ : ∃ R, (-X) % (-Y) = R := ⟨_, rfl⟩
   rw [hD]
   rw [hR] at HR
   have HDD := Lib.hid hD; have HRR := Lib.hid hR; clear hD hR
   go_enter Tryz.func222, Tryz.ntmps222
   go_wp2_with fail
   refine al4c fun v1 hb x_a x_b x_x x_y => ?_
   replace x_a := Bx.of x_a; replace x_b := Bx.of x_b; replace x_x := Bx.of x_x; replace x_y := Bx.of x_y
   obtain ⟨h, h2⟩ := mv2 hb h h2
   have q_a := x_a.al
   have q_b := x_b.al
   have q_x := x_x.al
   have q_y := x_y.al
   go_wp2_with fail
   with_reducible refine (ZSign_any h2 (by omega)).mono ?_
   rintro e v2 ⟨rfl, hb1⟩
   obtain ⟨x_a, x_b, x_x, x_y, h, h2, hb⟩ := mv7 hb1 x_a x_b x_x x_y h h2 hb
   clear hb1
   replace q_a := x_a.al
   replace q_b := x_b.al
   replace q_x := x_x.al
   replace q_y := x_y.al
   rw [HS.out]
   go_wp2_with fail
   go_region_with ((first | (go_at_call 167; (with_reducible refine (ZNeg_any h.drw j (Nat.le_refl _)).mono ?_); rintro e v3 ⟨A5, n5, c5, rfl, za, hb1⟩; replace hb1 := undrew hb1; obtain ⟨x_a, x_b, x_x, x_y, h, h2, hb⟩ := mv7 hb1 x_a x_b x_x x_y h h2 hb; clear hb1; replace q_a := x_a.al; replace q_b := x_b.al; replace q_x := x_x.al; replace q_y := x_y.al) | (go_at_call 167; (with_reducible refine (ZNeg_any h2 j2 (Nat.le_refl _)).mono ?_); rintro e v4 ⟨A6, n6, c6, rfl, zb, hb1⟩; obtain ⟨x_a, x_b, x_x, x_y, h, h2, za, hb⟩ := mv8 hb1 x_a x_b x_x x_y h h2 za hb; clear hb1; replace q_a := x_a.al; replace q_b := x_b.al; replace q_x := x_x.al; replace q_y := x_y.al)))
   all_goals
    skip
    clear q_a q_b q_x q_y
    refine x_a.st2 x_b (by omega) fun _ v5 hs hs2 hx hy => ?_
    obtain ⟨x_x, x_y, h, h2, za, zb, hb⟩ := ms7 hs ⟨by omega, by omega, trivial, trivial, trivial, trivial, by omega⟩ x_x x_y h h2 za zb hb
    obtain ⟨x_x, x_y, h, h2, za, zb, hb⟩ := ms7 hs2 ⟨by omega, by omega, trivial, trivial, trivial, trivial, by omega⟩ x_x x_y h h2 za zb hb
    replace x_a := hx; replace x_b := hy; clear hx hy hs hs2
    have q_a := x_a.al
    have q_b := x_b.al
    have q_x := x_x.al
    have q_y := x_y.al
    go_wp2_with fail
    with_reducible refine (ZDivMod_any za.zr zb.zr HD.out (k - 1) (by omega) (by omega) (by omega)).mono ?_
    rintro e v6 ⟨A7, n7, c7, A8, n8, c8, rfl, zq, zr, hb1⟩
    obtain ⟨x_a, x_b, x_x, x_y, h, h2, za, zb, hb⟩ := mv9 hb1 x_a x_b x_x x_y h h2 za zb hb
    clear hb1
    replace q_a := x_a.al
    replace q_b := x_b.al
    replace q_x := x_x.al
    replace q_y := x_y.al
    rw [HDD.out] at zq
    rw [HRR.out] at zr
    rw [HDD.out, HRR.out]
    clear q_a
    clear q_b
    have y_x := (((x_x.alloc (.cells #[.bool (ngB D), .slice A7 n7 c7] 24)).alloc (.cells #[.bool (ngB R), .slice A8 n8 c8] 24))).al
    have y_y := (((x_y.alloc (.cells #[.bool (ngB D), .slice A7 n7 c7] 24)).alloc (.cells #[.bool (ngB R), .slice A8 n8 c8] 24))).al
    go_wp2_with fail
    clear y_x y_y
    have l_a_d := x_a.lt
    have l_b_d := x_b.lt
    have l_x_d := x_x.lt
    have l_y_d := x_y.lt
    have e_d : w.heap.size ≤ v6.heap.size := hb.size
    clear q_x q_y
    refine al2c fun v7 hb1 x_d x_e => ?_
    replace x_d := Bx.of x_d; replace x_e := Bx.of x_e
    obtain ⟨x_a, x_b, x_x, x_y, h, h2, za, zb, zq⟩ := mv9 hb1 x_a x_b x_x x_y h h2 za zb zq
    obtain ⟨zr, hb⟩ := mv2 hb1 zr hb
    clear hb1
    have q_x := x_x.al
    have q_y := x_y.al
    have q_d := x_d.al
    have q_e := x_e.al
    skip
    with_reducible refine (ZSign_any zr.zr (by omega)).mono ?_
    rintro e v8 ⟨rfl, hb1⟩
    obtain ⟨x_a, x_b, x_x, x_y, x_d, x_e, h, h2, za⟩ := mv9 hb1 x_a x_b x_x x_y x_d x_e h h2 za
    obtain ⟨zb, zq, zr, hb⟩ := mv4 hb1 zb zq zr hb
    clear hb1
    replace q_x := x_x.al
    replace q_y := x_y.al
    replace q_d := x_d.al
    replace q_e := x_e.al
    rw [HR.out]
    go_wp2_with fail
    go_region_held3 (fun w' => w'.cell? ⟨v6.heap.size, 0, none⟩ = some (.bool (ngB D)) ∧ w'.cell? ⟨v6.heap.size, 1, none⟩ = some (.slice A7 n7 c7))
     (first | (with_reducible exact ⟨x_d.c0, x_d.c1⟩) | (with_reducible exact ⟨(x_d.aside (by omega)).c0, (x_d.aside (by omega)).c1⟩) | (with_reducible exact ⟨((x_d.aside (by omega)).aside (by omega)).c0, ((x_d.aside (by omega)).aside (by omega)).c1⟩) | (with_reducible exact ⟨(x_d.asideD (by omega)).c0, (x_d.asideD (by omega)).c1⟩) | (with_reducible exact ⟨((x_d.asideD (by omega)).asideD (by omega)).c0, ((x_d.asideD (by omega)).asideD (by omega)).c1⟩) | (with_reducible exact ⟨(x_d.asideL (by omega)).c0, (x_d.asideL (by omega)).c1⟩) | (with_reducible exact ⟨((x_d.asideL (by omega)).asideL (by omega)).c0, ((x_d.asideL (by omega)).asideL (by omega)).c1⟩) | go_keep)
     (first | (go_at_call 22; (with_reducible refine (ZOf_any 1 (by omega) (by omega)).mono ?_); rintro e v9 ⟨A9, n9, c9, rfl, zo, hb1⟩; replace hb1 := undrew hb1; obtain ⟨x_a, x_b, x_x, x_y, x_d, x_e, h, h2, za⟩ := mv9 hb1 x_a x_b x_x x_y x_d x_e h h2 za; obtain ⟨zb, zq, zr, hb⟩ := mv4 hb1 zb zq zr hb; clear hb1; replace q_x := x_x.al; replace q_y := x_y.al; replace q_d := x_d.al; replace q_e := x_e.al) | (go_at_call 23; (with_reducible refine (ZAdd_any zq.zr zo.zr k (by omega) (by omega) (by omega)).mono ?_); rintro e v10 ⟨A10, n10, c10, rfl, zs, hb1⟩; obtain ⟨x_a, x_b, x_x, x_y, x_d, x_e, h, h2, za⟩ := mv9 hb1 x_a x_b x_x x_y x_d x_e h h2 za; obtain ⟨zb, zq, zr, zo, hb⟩ := mv5 hb1 zb zq zr zo hb; clear hb1; replace q_x := x_x.al; replace q_y := x_y.al; replace q_d := x_d.al; replace q_e := x_e.al))
    go_wp2
    clear q_x q_y q_d q_e
    refine x_x.st2 x_y (by omega) fun _ v11 hs hs2 hx hy => ?_
    obtain ⟨x_a, x_b, x_d, x_e, h, h2, za, zb, zq⟩ := ms9 hs ⟨by omega, by omega, by omega, by omega, trivial, trivial, trivial, trivial, trivial⟩ x_a x_b x_d x_e h h2 za zb zq
    obtain ⟨zr, zo, zs, hb⟩ := ms4 hs ⟨trivial, trivial, trivial, by omega⟩ zr zo zs hb
    obtain ⟨x_a, x_b, x_d, x_e, h, h2, za, zb, zq⟩ := ms9 hs2 ⟨by omega, by omega, by omega, by omega, trivial, trivial, trivial, trivial, trivial⟩ x_a x_b x_d x_e h h2 za zb zq
    obtain ⟨zr, zo, zs, hb⟩ := ms4 hs2 ⟨trivial, trivial, trivial, by omega⟩ zr zo zs hb
    replace x_x := hx; replace x_y := hy; clear hx hy hs hs2
    have q_x := x_x.al
    have q_y := x_y.al
    have q_d := x_d.al
    have q_e := x_e.al
    refine bodyPost_ret (v := .tuple #[.agg #[.bool (ngB D), .slice A7 n7 c7], .agg #[.bool (ngB (D + 1)), .slice A10 n10 c10]]) (by simp [results, Tryz.results222, go_sem, q_x, q_y]) rfl ?_
    exact ⟨_, _, _, _, _, _, rfl, ⟨zq.1, by have := zq.2; omega⟩, zs, hb⟩
 ·obtain ⟨f1, f2⟩ := fd_pos (x := X) hs
  have HS := Lib.hid (sgn_p hs)
  rw [f1, f2]
  clear f1 f2
  have hr0 := Int.emod_nonneg X (show Y ≠ 0 by omega)
  by_cases hr : X % Y = 0
  ·rw [if_pos hr]
   have HR : Hid (sgnI (X % Y) = 0) := Lib.hid (by rw [hr]; rfl)
   have hd0 : Y ≠ 0 := by omega
   have HD := Lib.hid hd0; clear hd0 hr hr0 hs
   obtain ⟨D, hD⟩ : ∃ D, X / Y = D := ⟨_, rfl⟩
   obtain ⟨R, hR⟩ : ∃ R, X % Y = R := ⟨_, rfl⟩
   rw [hD]
   rw [hR] at HR
   have HDD := Lib.hid hD; have HRR := Lib.hid hR; clear hD hR
   go_enter Tryz.func222, Tryz.ntmps222
   go_wp2_with fail
   refine al4c fun v1 hb x_a x_b x_x x_y => ?_
   replace x_a := Bx.of x_a; replace x_b := Bx.of x_b; replace x_x := Bx.of x_x; replace x_y := Bx.of x_y
   obtain ⟨h, h2⟩ := mv2 hb h h2
   have q_a := x_a.al
   have q_b := x_b.al
   have q_x := x_x.al
   have q_y := x_y.al
   go_wp2_with fail
   with_reducible refine (ZSign_any h2 (by omega)).mono ?_
   rintro e v2 ⟨rfl, hb1⟩
   obtain ⟨x_a, x_b, x_x, x_y, h, h2, hb⟩ := mv7 hb1 x_a x_b x_x x_y h h2 hb
   clear hb1
   replace q_a := x_a.al
   replace q_b := x_b.al
   replace q_x := x_x.al
   replace q_y := x_y.al
   rw [HS.out]
   go_wp2_with fail
   with_reducible refine (ZDivMod_any h h2 HD.out (k - 1) (by omega) (by omega) (by omega)).mono ?_
   rintro e v3 ⟨A7, n7, c7, A8, n8, c8, rfl, zq, zr, hb1⟩
   obtain ⟨x_a, x_b, x_x, x_y, h, h2, hb⟩ := mv7 hb1 x_a x_b x_x x_y h h2 hb
   clear hb1
   replace q_a := x_a.al
   replace q_b := x_b.al
   replace q_x := x_x.al
   replace q_y := x_y.al
   rw [HDD.out] at zq
   rw [HRR.out] at zr
   rw [HDD.out, HRR.out]
   clear q_a
   clear q_b
   have y_x := (((x_x.alloc (.cells #[.bool (ngB D), .slice A7 n7 c7] 24)).alloc (.cells #[.bool (ngB R), .slice A8 n8 c8] 24))).al
   have y_y := (((x_y.alloc (.cells #[.bool (ngB D), .slice A7 n7 c7] 24)).alloc (.cells #[.bool (ngB R), .slice A8 n8 c8] 24))).al
   go_wp2_with fail
   clear y_x y_y
   have l_a_d := x_a.lt
   have l_b_d := x_b.lt
   have l_x_d := x_x.lt
   have l_y_d := x_y.lt
   have e_d : w.heap.size ≤ v3.heap.size := hb.size
   clear q_x q_y
   refine al2c fun v4 hb1 x_d x_e => ?_
   replace x_d := Bx.of x_d; replace x_e := Bx.of x_e
   obtain ⟨x_a, x_b, x_x, x_y, h, h2, zq, zr, hb⟩ := mv9 hb1 x_a x_b x_x x_y h h2 zq zr hb
   clear hb1
   have q_x := x_x.al
   have q_y := x_y.al
   have q_d := x_d.al
   have q_e := x_e.al
   skip
   with_reducible refine (ZSign_any zr.zr (by omega)).mono ?_
   rintro e v5 ⟨rfl, hb1⟩
   obtain ⟨x_a, x_b, x_x, x_y, x_d, x_e, h, h2, zq⟩ := mv9 hb1 x_a x_b x_x x_y x_d x_e h h2 zq
   obtain ⟨zr, hb⟩ := mv2 hb1 zr hb
   clear hb1
   replace q_x := x_x.al
   replace q_y := x_y.al
   replace q_d := x_d.al
   replace q_e := x_e.al
   rw [HR.out]
   go_wp2_with fail
   go_region_held3 (fun w' => w'.cell? ⟨v3.heap.size, 0, none⟩ = some (.bool (ngB D)) ∧ w'.cell? ⟨v3.heap.size, 1, none⟩ = some (.slice A7 n7 c7))
    (first | (with_reducible exact ⟨x_d.drew.c0, x_d.drew.c1⟩) | (with_reducible exact ⟨(x_d.aside (by omega)).drew.c0, (x_d.aside (by omega)).drew.c1⟩) | (with_reducible exact ⟨((x_d.aside (by omega)).aside (by omega)).drew.c0, ((x_d.aside (by omega)).aside (by omega)).drew.c1⟩) | go_keep)
    (first | fail)
   skip
   replace x_a := x_a.aside (b' := (ngB D)) (A' := A7) (n' := n7) (c' := c7) (g := w.heap.size + 1 + 1) (by omega)
   replace x_b := x_b.aside (b' := (ngB D)) (A' := A7) (n' := n7) (c' := c7) (g := w.heap.size + 1 + 1) (by omega)
   replace x_y := x_y.aside (b' := (ngB D)) (A' := A7) (n' := n7) (c' := c7) (g := w.heap.size + 1 + 1) (by omega)
   replace x_d := x_d.aside (b' := (ngB D)) (A' := A7) (n' := n7) (c' := c7) (g := w.heap.size + 1 + 1) (by omega)
   replace x_e := x_e.aside (b' := (ngB D)) (A' := A7) (n' := n7) (c' := c7) (g := w.heap.size + 1 + 1) (by omega)
   replace h := h.put (b' := (ngB D)) (A' := A7) (n' := n7) (c' := c7) x_x
   replace h2 := h2.put (b' := (ngB D)) (A' := A7) (n' := n7) (c' := c7) x_x
   replace zq := zq.put (b' := (ngB D)) (A' := A7) (n' := n7) (c' := c7) x_x
   replace zr := zr.put (b' := (ngB D)) (A' := A7) (n' := n7) (c' := c7) x_x
   replace hb := put_below (g := w.heap.size + 1 + 1) hb (by omega) (.bool (ngB D)) (.slice A7 n7 c7)
   replace x_x := x_x.put (ngB D) A7 n7 c7
   clear q_x q_y q_d q_e
   generalize (v5.setCell ⟨w.heap.size + 1 + 1, 0, none⟩ (.bool (ngB D))).setCell ⟨w.heap.size + 1 + 1, 1, none⟩ (.slice A7 n7 c7) = v6 at *
   have q_x := x_x.al
   have q_y := x_y.al
   have q_d := x_d.al
   have q_e := x_e.al
   replace x_a := x_a.aside (b' := (ngB D)) (A' := A7) (n' := n7) (c' := c7) (g := w.heap.size + 1 + 1 + 1) (by omega)
   replace x_b := x_b.aside (b' := (ngB D)) (A' := A7) (n' := n7) (c' := c7) (g := w.heap.size + 1 + 1 + 1) (by omega)
   replace x_x := x_x.aside (b' := (ngB D)) (A' := A7) (n' := n7) (c' := c7) (g := w.heap.size + 1 + 1 + 1) (by omega)
   replace x_d := x_d.aside (b' := (ngB D)) (A' := A7) (n' := n7) (c' := c7) (g := w.heap.size + 1 + 1 + 1) (by omega)
   replace x_e := x_e.aside (b' := (ngB D)) (A' := A7) (n' := n7) (c' := c7) (g := w.heap.size + 1 + 1 + 1) (by omega)
   replace h := h.put (b' := (ngB D)) (A' := A7) (n' := n7) (c' := c7) x_y
   replace h2 := h2.put (b' := (ngB D)) (A' := A7) (n' := n7) (c' := c7) x_y
   replace zq := zq.put (b' := (ngB D)) (A' := A7) (n' := n7) (c' := c7) x_y
   replace zr := zr.put (b' := (ngB D)) (A' := A7) (n' := n7) (c' := c7) x_y
   replace hb := put_below (g := w.heap.size + 1 + 1 + 1) hb (by omega) (.bool (ngB D)) (.slice A7 n7 c7)
   replace x_y := x_y.put (ngB D) A7 n7 c7
   clear q_x q_y q_d q_e
   generalize (v6.setCell ⟨w.heap.size + 1 + 1 + 1, 0, none⟩ (.bool (ngB D))).setCell ⟨w.heap.size + 1 + 1 + 1, 1, none⟩ (.slice A7 n7 c7) = v7 at *
   have q_x := x_x.al
   have q_y := x_y.al
   have q_d := x_d.al
   have q_e := x_e.al
   replace x_a := x_a.drew
   replace x_b := x_b.drew
   replace x_x := x_x.drew
   replace x_y := x_y.drew
   replace x_d := x_d.drew
   replace x_e := x_e.drew
   replace h := h.drw
   replace h2 := h2.drw
   replace zq := zq.drw
   replace zr := zr.drw
   replace hb := below_drew hb
   clear q_x q_y q_d q_e
   generalize v7.drew = v8 at *
   have q_x := x_x.al
   have q_y := x_y.al
   have q_d := x_d.al
   have q_e := x_e.al
   go_wp2
   refine bodyPost_ret (v := .tuple #[.agg #[.bool (ngB D), .slice A7 n7 c7], .agg #[.bool (ngB D), .slice A7 n7 c7]]) (by simp [results, Tryz.results222, go_sem, q_x, q_y]) rfl ?_
   exact ⟨_, _, _, _, _, _, rfl, ⟨zq.1, by have := zq.2; omega⟩, ⟨zq.1, by have := zq.2; omega⟩, hb⟩
  ·rw [if_neg hr]
   have HR : Hid (sgnI (X % Y) = 1) := Lib.hid (sgn_p (by omega))
   have hd0 : Y ≠ 0 := by omega
   have HD := Lib.hid hd0; clear hd0 hr hr0 hs
   obtain ⟨D, hD⟩ : ∃ D, X / Y = D := ⟨_, rfl⟩
   obtain ⟨R, hR⟩ : ∃ R, X % Y = R := ⟨_, rfl⟩
   rw [hD]
   rw [hR] at HR
   have HDD := Lib.hid hD; have HRR := Lib.hid hR; clear hD hR
   go_enter Tryz.func222, Tryz.ntmps222
   go_wp2_with fail
   refine al4c fun v1 hb x_a x_b x_x x_y => ?_
   replace x_a := Bx.of x_a; replace x_b := Bx.of x_b; replace x_x := Bx.of x_x; replace x_y := Bx.of x_y
   obtain ⟨h, h2⟩ := mv2 hb h h2
   have q_a := x_a.al
   have q_b := x_b.al
   have q_x := x_x.al
   have q_y := x_y.al
   go_wp2_with fail
   with_reducible refine (ZSign_any h2 (by omega)).mono ?_
   rintro e v2 ⟨rfl, hb1⟩
   obtain ⟨x_a, x_b, x_x, x_y, h, h2, hb⟩ := mv7 hb1 x_a x_b x_x x_y h h2 hb
   clear hb1
   replace q_a := x_a.al
   replace q_b := x_b.al
   replace q_x := x_x.al
   replace q_y := x_y.al
   rw [HS.out]
   go_wp2_with fail
   with_reducible refine (ZDivMod_any h h2 HD.out (k - 1) (by omega) (by omega) (by omega)).mono ?_
   rintro e v3 ⟨A7, n7, c7, A8, n8, c8, rfl, zq, zr, hb1⟩
   obtain ⟨x_a, x_b, x_x, x_y, h, h2, hb⟩ := mv7 hb1 x_a x_b x_x x_y h h2 hb
   clear hb1
   replace q_a := x_a.al
   replace q_b := x_b.al
   replace q_x := x_x.al
   replace q_y := x_y.al
   rw [HDD.out] at zq
   rw [HRR.out] at zr
   rw [HDD.out, HRR.out]
   clear q_a
   clear q_b
   have y_x := (((x_x.alloc (.cells #[.bool (ngB D), .slice A7 n7 c7] 24)).alloc (.cells #[.bool (ngB R), .slice A8 n8 c8] 24))).al
   have y_y := (((x_y.alloc (.cells #[.bool (ngB D), .slice A7 n7 c7] 24)).alloc (.cells #[.bool (ngB R), .slice A8 n8 c8] 24))).al
   go_wp2_with fail
   clear y_x y_y
   have l_a_d := x_a.lt
   have l_b_d := x_b.lt
   have l_x_d := x_x.lt
   have l_y_d := x_y.lt
   have e_d : w.heap.size ≤ v3.heap.size := hb.size
   clear q_x q_y
   refine al2c fun v4 hb1 x_d x_e => ?_
   replace x_d := Bx.of x_d; replace x_e := Bx.of x_e
   obtain ⟨x_a, x_b, x_x, x_y, h, h2, zq, zr, hb⟩ := mv9 hb1 x_a x_b x_x x_y h h2 zq zr hb
   clear hb1
   have q_x := x_x.al
   have q_y := x_y.al
   have q_d := x_d.al
   have q_e := x_e.al
   skip
   with_reducible refine (ZSign_any zr.zr (by omega)).mono ?_
   rintro e v5 ⟨rfl, hb1⟩
   obtain ⟨x_a, x_b, x_x, x_y, x_d, x_e, h, h2, zq⟩ := mv9 hb1 x_a x_b x_x x_y x_d x_e h h2 zq
   obtain ⟨zr, hb⟩ := mv2 hb1 zr hb
   clear hb1
   replace q_x := x_x.al
   replace q_y := x_y.al
   replace q_d := x_d.al
   replace q_e := x_e.al
   rw [HR.out]
   go_wp2_with fail
   go_region_held3 (fun w' => w'.cell? ⟨v3.heap.size, 0, none⟩ = some (.bool (ngB D)) ∧ w'.cell? ⟨v3.heap.size, 1, none⟩ = some (.slice A7 n7 c7))
    (first | (with_reducible exact ⟨x_d.c0, x_d.c1⟩) | (with_reducible exact ⟨(x_d.aside (by omega)).c0, (x_d.aside (by omega)).c1⟩) | (with_reducible exact ⟨((x_d.aside (by omega)).aside (by omega)).c0, ((x_d.aside (by omega)).aside (by omega)).c1⟩) | (with_reducible exact ⟨(x_d.asideD (by omega)).c0, (x_d.asideD (by omega)).c1⟩) | (with_reducible exact ⟨((x_d.asideD (by omega)).asideD (by omega)).c0, ((x_d.asideD (by omega)).asideD (by omega)).c1⟩) | (with_reducible exact ⟨(x_d.asideL (by omega)).c0, (x_d.asideL (by omega)).c1⟩) | (with_reducible exact ⟨((x_d.asideL (by omega)).asideL (by omega)).c0, ((x_d.asideL (by omega)).asideL (by omega)).c1⟩) | go_keep)
    (first | (go_at_call 22; (with_reducible refine (ZOf_any 1 (by omega) (by omega)).mono ?_); rintro e v6 ⟨A9, n9, c9, rfl, zo, hb1⟩; replace hb1 := undrew hb1; obtain ⟨x_a, x_b, x_x, x_y, x_d, x_e, h, h2, zq⟩ := mv9 hb1 x_a x_b x_x x_y x_d x_e h h2 zq; obtain ⟨zr, hb⟩ := mv2 hb1 zr hb; clear hb1; replace q_x := x_x.al; replace q_y := x_y.al; replace q_d := x_d.al; replace q_e := x_e.al) | (go_at_call 23; (with_reducible refine (ZAdd_any zq.zr zo.zr k (by omega) (by omega) (by omega)).mono ?_); rintro e v7 ⟨A10, n10, c10, rfl, zs, hb1⟩; obtain ⟨x_a, x_b, x_x, x_y, x_d, x_e, h, h2, zq⟩ := mv9 hb1 x_a x_b x_x x_y x_d x_e h h2 zq; obtain ⟨zr, zo, hb⟩ := mv3 hb1 zr zo hb; clear hb1; replace q_x := x_x.al; replace q_y := x_y.al; replace q_d := x_d.al; replace q_e := x_e.al))
   go_wp2
   clear q_x q_y q_d q_e
   refine x_x.st2 x_y (by omega) fun _ v8 hs hs2 hx hy => ?_
   obtain ⟨x_a, x_b, x_d, x_e, h, h2, zq, zr, zo⟩ := ms9 hs ⟨by omega, by omega, by omega, by omega, trivial, trivial, trivial, trivial, trivial⟩ x_a x_b x_d x_e h h2 zq zr zo
   obtain ⟨zs, hb⟩ := ms2 hs ⟨trivial, by omega⟩ zs hb
   obtain ⟨x_a, x_b, x_d, x_e, h, h2, zq, zr, zo⟩ := ms9 hs2 ⟨by omega, by omega, by omega, by omega, trivial, trivial, trivial, trivial, trivial⟩ x_a x_b x_d x_e h h2 zq zr zo
   obtain ⟨zs, hb⟩ := ms2 hs2 ⟨trivial, by omega⟩ zs hb
   replace x_x := hx; replace x_y := hy; clear hx hy hs hs2
   have q_x := x_x.al
   have q_y := x_y.al
   have q_d := x_d.al
   have q_e := x_e.al
   refine bodyPost_ret (v := .tuple #[.agg #[.bool (ngB D), .slice A7 n7 c7], .agg #[.bool (ngB (D + 1)), .slice A10 n10 c10]]) (by simp [results, Tryz.results222, go_sem, q_x, q_y]) rfl ?_
   exact ⟨_, _, _, _, _, _, rfl, ⟨zq.1, by have := zq.2; omega⟩, zs, hb⟩
theorem atAdd_any (h : Zr w b A n c X j) (h2 : Zr w b2 A2 n2 c2 Y j2) (k : Nat) (hk : j + 1 ≤ k) (hk2 : j2 + 1 ≤ k) (hj : k ≤ 1000000) :
  Calls Tryz.prog 260 #[.agg #[.bool b, .slice A n c], .agg #[.bool b2, .slice A2 n2 c2]] w (Out2Z w (X + Y) (X + Y) k) := by
 go_enter Tryz.func260, Tryz.ntmps260
 go_wp2_with fail
 refine al4c fun v1 hb x_a x_b x_x x_y => ?_
 replace x_a := Bx.of x_a; replace x_b := Bx.of x_b; replace x_x := Bx.of x_x; replace x_y := Bx.of x_y
 obtain ⟨h, h2⟩ := mv2 hb h h2
 have q_a := x_a.al
 have q_b := x_b.al
 have q_x := x_x.al
 have q_y := x_y.al
 go_wp2_with fail
 with_reducible refine (ZAdd_any h h2 k hk hk2 hj).mono ?_
 rintro e v2 ⟨A7, n7, c7, rfl, zs, hb1⟩
 obtain ⟨x_a, x_b, x_x, x_y, h, h2, hb⟩ := mv7 hb1 x_a x_b x_x x_y h h2 hb
 clear hb1
 replace q_a := x_a.al
 replace q_b := x_b.al
 replace q_x := x_x.al
 replace q_y := x_y.al
 have y_a := ((x_a.alloc (.cells #[.bool (ngB (X + Y)), .slice A7 n7 c7] 24))).al
 have y_b := ((x_b.alloc (.cells #[.bool (ngB (X + Y)), .slice A7 n7 c7] 24))).al
 have y_x := ((x_x.alloc (.cells #[.bool (ngB (X + Y)), .slice A7 n7 c7] 24))).al
 have y_y := ((x_y.alloc (.cells #[.bool (ngB (X + Y)), .slice A7 n7 c7] 24))).al
 go_wp2_with fail
 clear y_a y_b y_x y_y
 have l_a_s := x_a.lt
 have l_b_s := x_b.lt
 have l_x_s := x_x.lt
 have l_y_s := x_y.lt
 have e_s : w.heap.size ≤ v2.heap.size := hb.size
 clear q_a q_b q_x q_y
 refine al1 fun v3 hb1 x_s => ?_
 replace x_s := Bx.of x_s
 obtain ⟨x_a, x_b, x_x, x_y, h, h2, zs, hb⟩ := mv8 hb1 x_a x_b x_x x_y h h2 zs hb
 clear hb1
 have q_a := x_a.al
 have q_b := x_b.al
 have q_x := x_x.al
 have q_y := x_y.al
 have q_s := x_s.al
 skip
 go_region_held3 (fun w' => w'.cell? ⟨v2.heap.size, 0, none⟩ = some (.bool (ngB (X + Y))) ∧ w'.cell? ⟨v2.heap.size, 1, none⟩ = some (.slice A7 n7 c7))
  (first | (with_reducible exact ⟨x_s.drew.c0, x_s.drew.c1⟩) | (with_reducible exact ⟨(x_s.aside (by omega)).drew.c0, (x_s.aside (by omega)).drew.c1⟩) | (with_reducible exact ⟨((x_s.aside (by omega)).aside (by omega)).drew.c0, ((x_s.aside (by omega)).aside (by omega)).drew.c1⟩) | go_keep)
  (first | fail)
 skip
 replace x_a := x_a.aside (b' := (ngB (X + Y))) (A' := A7) (n' := n7) (c' := c7) (g := w.heap.size + 1 + 1) (by omega)
 replace x_b := x_b.aside (b' := (ngB (X + Y))) (A' := A7) (n' := n7) (c' := c7) (g := w.heap.size + 1 + 1) (by omega)
 replace x_y := x_y.aside (b' := (ngB (X + Y))) (A' := A7) (n' := n7) (c' := c7) (g := w.heap.size + 1 + 1) (by omega)
 replace x_s := x_s.aside (b' := (ngB (X + Y))) (A' := A7) (n' := n7) (c' := c7) (g := w.heap.size + 1 + 1) (by omega)
 replace h := h.put (b' := (ngB (X + Y))) (A' := A7) (n' := n7) (c' := c7) x_x
 replace h2 := h2.put (b' := (ngB (X + Y))) (A' := A7) (n' := n7) (c' := c7) x_x
 replace zs := zs.put (b' := (ngB (X + Y))) (A' := A7) (n' := n7) (c' := c7) x_x
 replace hb := put_below (g := w.heap.size + 1 + 1) hb (by omega) (.bool (ngB (X + Y))) (.slice A7 n7 c7)
 replace x_x := x_x.put (ngB (X + Y)) A7 n7 c7
 clear q_a q_b q_x q_y q_s
 generalize (v3.setCell ⟨w.heap.size + 1 + 1, 0, none⟩ (.bool (ngB (X + Y)))).setCell ⟨w.heap.size + 1 + 1, 1, none⟩ (.slice A7 n7 c7) = v4 at *
 have q_a := x_a.al
 have q_b := x_b.al
 have q_x := x_x.al
 have q_y := x_y.al
 have q_s := x_s.al
 replace x_a := x_a.aside (b' := (ngB (X + Y))) (A' := A7) (n' := n7) (c' := c7) (g := w.heap.size + 1 + 1 + 1) (by omega)
 replace x_b := x_b.aside (b' := (ngB (X + Y))) (A' := A7) (n' := n7) (c' := c7) (g := w.heap.size + 1 + 1 + 1) (by omega)
 replace x_x := x_x.aside (b' := (ngB (X + Y))) (A' := A7) (n' := n7) (c' := c7) (g := w.heap.size + 1 + 1 + 1) (by omega)
 replace x_s := x_s.aside (b' := (ngB (X + Y))) (A' := A7) (n' := n7) (c' := c7) (g := w.heap.size + 1 + 1 + 1) (by omega)
 replace h := h.put (b' := (ngB (X + Y))) (A' := A7) (n' := n7) (c' := c7) x_y
 replace h2 := h2.put (b' := (ngB (X + Y))) (A' := A7) (n' := n7) (c' := c7) x_y
 replace zs := zs.put (b' := (ngB (X + Y))) (A' := A7) (n' := n7) (c' := c7) x_y
 replace hb := put_below (g := w.heap.size + 1 + 1 + 1) hb (by omega) (.bool (ngB (X + Y))) (.slice A7 n7 c7)
 replace x_y := x_y.put (ngB (X + Y)) A7 n7 c7
 clear q_a q_b q_x q_y q_s
 generalize (v4.setCell ⟨w.heap.size + 1 + 1 + 1, 0, none⟩ (.bool (ngB (X + Y)))).setCell ⟨w.heap.size + 1 + 1 + 1, 1, none⟩ (.slice A7 n7 c7) = v5 at *
 have q_a := x_a.al
 have q_b := x_b.al
 have q_x := x_x.al
 have q_y := x_y.al
 have q_s := x_s.al
 replace x_a := x_a.drew
 replace x_b := x_b.drew
 replace x_x := x_x.drew
 replace x_y := x_y.drew
 replace x_s := x_s.drew
 replace h := h.drw
 replace h2 := h2.drw
 replace zs := zs.drw
 replace hb := below_drew hb
 clear q_a q_b q_x q_y q_s
 generalize v5.drew = v6 at *
 have q_a := x_a.al
 have q_b := x_b.al
 have q_x := x_x.al
 have q_y := x_y.al
 have q_s := x_s.al
 go_wp2
 refine bodyPost_ret (v := .tuple #[.agg #[.bool (ngB (X + Y)), .slice A7 n7 c7], .agg #[.bool (ngB (X + Y)), .slice A7 n7 c7]]) (by simp [results, Tryz.results260, go_sem, q_x, q_y]) rfl ?_
 exact ⟨_, _, _, _, _, _, rfl, zs, zs, hb⟩
theorem atSub_any (h : Zr w b A n c X j) (h2 : Zr w b2 A2 n2 c2 Y j2) (k : Nat) (hk : j + 1 ≤ k) (hk2 : j2 + 1 ≤ k) (hj : k ≤ 1000000) :
  Calls Tryz.prog 229 #[.agg #[.bool b, .slice A n c], .agg #[.bool b2, .slice A2 n2 c2]] w (Out2Z w (X - Y) (X - Y) k) := by
 go_enter Tryz.func229, Tryz.ntmps229
 go_wp2_with fail
 refine al4c fun v1 hb x_a x_b x_x x_y => ?_
 replace x_a := Bx.of x_a; replace x_b := Bx.of x_b; replace x_x := Bx.of x_x; replace x_y := Bx.of x_y
 obtain ⟨h, h2⟩ := mv2 hb h h2
 have q_a := x_a.al
 have q_b := x_b.al
 have q_x := x_x.al
 have q_y := x_y.al
 go_wp2_with fail
 with_reducible refine (ZSub_any h h2 k hk hk2 hj).mono ?_
 rintro e v2 ⟨A7, n7, c7, rfl, zs, hb1⟩
 obtain ⟨x_a, x_b, x_x, x_y, h, h2, hb⟩ := mv7 hb1 x_a x_b x_x x_y h h2 hb
 clear hb1
 replace q_a := x_a.al
 replace q_b := x_b.al
 replace q_x := x_x.al
 replace q_y := x_y.al
 have y_a := ((x_a.alloc (.cells #[.bool (ngB (X - Y)), .slice A7 n7 c7] 24))).al
 have y_b := ((x_b.alloc (.cells #[.bool (ngB (X - Y)), .slice A7 n7 c7] 24))).al
 have y_x := ((x_x.alloc (.cells #[.bool (ngB (X - Y)), .slice A7 n7 c7] 24))).al
 have y_y := ((x_y.alloc (.cells #[.bool (ngB (X - Y)), .slice A7 n7 c7] 24))).al
 go_wp2_with fail
 clear y_a y_b y_x y_y
 have l_a_s := x_a.lt
 have l_b_s := x_b.lt
 have l_x_s := x_x.lt
 have l_y_s := x_y.lt
 have e_s : w.heap.size ≤ v2.heap.size := hb.size
 clear q_a q_b q_x q_y
 refine al1 fun v3 hb1 x_s => ?_
 replace x_s := Bx.of x_s
 obtain ⟨x_a, x_b, x_x, x_y, h, h2, zs, hb⟩ := mv8 hb1 x_a x_b x_x x_y h h2 zs hb
 clear hb1
 have q_a := x_a.al
 have q_b := x_b.al
 have q_x := x_x.al
 have q_y := x_y.al
 have q_s := x_s.al
 skip
 go_region_held3 (fun w' => w'.cell? ⟨v2.heap.size, 0, none⟩ = some (.bool (ngB (X - Y))) ∧ w'.cell? ⟨v2.heap.size, 1, none⟩ = some (.slice A7 n7 c7))
  (first | (with_reducible exact ⟨x_s.drew.c0, x_s.drew.c1⟩) | (with_reducible exact ⟨(x_s.aside (by omega)).drew.c0, (x_s.aside (by omega)).drew.c1⟩) | (with_reducible exact ⟨((x_s.aside (by omega)).aside (by omega)).drew.c0, ((x_s.aside (by omega)).aside (by omega)).drew.c1⟩) | go_keep)
  (first | fail)
 skip
 replace x_a := x_a.aside (b' := (ngB (X - Y))) (A' := A7) (n' := n7) (c' := c7) (g := w.heap.size + 1 + 1) (by omega)
 replace x_b := x_b.aside (b' := (ngB (X - Y))) (A' := A7) (n' := n7) (c' := c7) (g := w.heap.size + 1 + 1) (by omega)
 replace x_y := x_y.aside (b' := (ngB (X - Y))) (A' := A7) (n' := n7) (c' := c7) (g := w.heap.size + 1 + 1) (by omega)
 replace x_s := x_s.aside (b' := (ngB (X - Y))) (A' := A7) (n' := n7) (c' := c7) (g := w.heap.size + 1 + 1) (by omega)
 replace h := h.put (b' := (ngB (X - Y))) (A' := A7) (n' := n7) (c' := c7) x_x
 replace h2 := h2.put (b' := (ngB (X - Y))) (A' := A7) (n' := n7) (c' := c7) x_x
 replace zs := zs.put (b' := (ngB (X - Y))) (A' := A7) (n' := n7) (c' := c7) x_x
 replace hb := put_below (g := w.heap.size + 1 + 1) hb (by omega) (.bool (ngB (X - Y))) (.slice A7 n7 c7)
 replace x_x := x_x.put (ngB (X - Y)) A7 n7 c7
 clear q_a q_b q_x q_y q_s
 generalize (v3.setCell ⟨w.heap.size + 1 + 1, 0, none⟩ (.bool (ngB (X - Y)))).setCell ⟨w.heap.size + 1 + 1, 1, none⟩ (.slice A7 n7 c7) = v4 at *
 have q_a := x_a.al
 have q_b := x_b.al
 have q_x := x_x.al
 have q_y := x_y.al
 have q_s := x_s.al
 replace x_a := x_a.aside (b' := (ngB (X - Y))) (A' := A7) (n' := n7) (c' := c7) (g := w.heap.size + 1 + 1 + 1) (by omega)
 replace x_b := x_b.aside (b' := (ngB (X - Y))) (A' := A7) (n' := n7) (c' := c7) (g := w.heap.size + 1 + 1 + 1) (by omega)
 replace x_x := x_x.aside (b' := (ngB (X - Y))) (A' := A7) (n' := n7) (c' := c7) (g := w.heap.size + 1 + 1 + 1) (by omega)
 replace x_s := x_s.aside (b' := (ngB (X - Y))) (A' := A7) (n' := n7) (c' := c7) (g := w.heap.size + 1 + 1 + 1) (by omega)
 replace h := h.put (b' := (ngB (X - Y))) (A' := A7) (n' := n7) (c' := c7) x_y
 replace h2 := h2.put (b' := (ngB (X - Y))) (A' := A7) (n' := n7) (c' := c7) x_y
 replace zs := zs.put (b' := (ngB (X - Y))) (A' := A7) (n' := n7) (c' := c7) x_y
 replace hb := put_below (g := w.heap.size + 1 + 1 + 1) hb (by omega) (.bool (ngB (X - Y))) (.slice A7 n7 c7)
 replace x_y := x_y.put (ngB (X - Y)) A7 n7 c7
 clear q_a q_b q_x q_y q_s
 generalize (v4.setCell ⟨w.heap.size + 1 + 1 + 1, 0, none⟩ (.bool (ngB (X - Y)))).setCell ⟨w.heap.size + 1 + 1 + 1, 1, none⟩ (.slice A7 n7 c7) = v5 at *
 have q_a := x_a.al
 have q_b := x_b.al
 have q_x := x_x.al
 have q_y := x_y.al
 have q_s := x_s.al
 replace x_a := x_a.drew
 replace x_b := x_b.drew
 replace x_x := x_x.drew
 replace x_y := x_y.drew
 replace x_s := x_s.drew
 replace h := h.drw
 replace h2 := h2.drw
 replace zs := zs.drw
 replace hb := below_drew hb
 clear q_a q_b q_x q_y q_s
 generalize v5.drew = v6 at *
 have q_a := x_a.al
 have q_b := x_b.al
 have q_x := x_x.al
 have q_y := x_y.al
 have q_s := x_s.al
 go_wp2
 refine bodyPost_ret (v := .tuple #[.agg #[.bool (ngB (X - Y)), .slice A7 n7 c7], .agg #[.bool (ngB (X - Y)), .slice A7 n7 c7]]) (by simp [results, Tryz.results229, go_sem, q_x, q_y]) rfl ?_
 exact ⟨_, _, _, _, _, _, rfl, zs, zs, hb⟩
theorem atMul_any (h : Zr w b A n c X j) (h2 : Zr w b2 A2 n2 c2 Y j2) {g : Nat} {b3 b4 : Bool} {A3 A4 : Option Addr} {n3 c3 n4 c4 : Nat} {q : Int} (x_cap : Lx w g b3 A3 n3 c3 b4 A4 n4 c4 q) (hq : 0 ≤ q ∧ q ≤ 2048) (k : Nat) (hk : j + j2 + 128 ≤ k) (hj : k ≤ 1000000) :
  Calls Tryz.prog 249 #[.agg #[.bool b, .slice A n c], .agg #[.bool b2, .slice A2 n2 c2], .pointer (some ⟨g, 0, none⟩)] w (Out2Z w (flI (X * Y) (-q)) (-flI (-(X * Y)) (-q)) k) := by
 have hwr : IntKind.i64.wrap (-q) = -q := wrap_in (by omega) (by omega)
 obtain ⟨Z, hZ⟩ : ∃ Z, X * Y = Z := ⟨_, rfl⟩
 rw [hZ]
 have HZ := Lib.hid hZ; clear hZ
 have hl_cap := x_cap.lt
 go_enter Tryz.func249, Tryz.ntmps249
 go_wp2_with fail
 refine al4 fun v1 hb x_a x_b x_x x_y => ?_
 replace x_a := Bx.of x_a; replace x_b := Bx.of x_b; replace x_x := Bx.of x_x; replace x_y := Bx.of x_y
 obtain ⟨h, h2, x_cap⟩ := mv3 hb h h2 x_cap
 have q_a := x_a.al
 have q_b := x_b.al
 have q_x := x_x.al
 have q_y := x_y.al
 have q_cap := x_cap.al
 go_wp2_with fail
 go_region_held3 (fun w' => w'.cell? ⟨w.heap.size, 0, none⟩ = some (.bool b) ∧ w'.cell? ⟨w.heap.size, 1, none⟩ = some (.slice A n c) ∧ w'.cell? ⟨w.heap.size + 1, 0, none⟩ = some (.bool b2) ∧ w'.cell? ⟨w.heap.size + 1, 1, none⟩ = some (.slice A2 n2 c2) ∧ w'.cell? ⟨g, 0, none⟩ = some (.bool b3) ∧ w'.cell? ⟨g, 1, none⟩ = some (.slice A3 n3 c3) ∧ w'.cell? ⟨g, 2, none⟩ = some (.bool b4) ∧ w'.cell? ⟨g, 3, none⟩ = some (.slice A4 n4 c4) ∧ w'.cell? ⟨g, 4, none⟩ = some (.int .i64 q))
  (first | (with_reducible exact ⟨x_a.c0, x_a.c1, x_b.c0, x_b.c1, x_cap.c0, x_cap.c1, x_cap.c2, x_cap.c3, x_cap.c4⟩) | (with_reducible exact ⟨(x_a.aside (by omega)).c0, (x_a.aside (by omega)).c1, (x_b.aside (by omega)).c0, (x_b.aside (by omega)).c1, (x_cap.aside (by omega)).c0, (x_cap.aside (by omega)).c1, (x_cap.aside (by omega)).c2, (x_cap.aside (by omega)).c3, (x_cap.aside (by omega)).c4⟩) | (with_reducible exact ⟨((x_a.aside (by omega)).aside (by omega)).c0, ((x_a.aside (by omega)).aside (by omega)).c1, ((x_b.aside (by omega)).aside (by omega)).c0, ((x_b.aside (by omega)).aside (by omega)).c1, ((x_cap.aside (by omega)).aside (by omega)).c0, ((x_cap.aside (by omega)).aside (by omega)).c1, ((x_cap.aside (by omega)).aside (by omega)).c2, ((x_cap.aside (by omega)).aside (by omega)).c3, ((x_cap.aside (by omega)).aside (by omega)).c4⟩) | (with_reducible exact ⟨(x_a.asideD (by omega)).c0, (x_a.asideD (by omega)).c1, (x_b.asideD (by omega)).c0, (x_b.asideD (by omega)).c1, (x_cap.asideD (by omega)).c0, (x_cap.asideD (by omega)).c1, (x_cap.asideD (by omega)).c2, (x_cap.asideD (by omega)).c3, (x_cap.asideD (by omega)).c4⟩) | (with_reducible exact ⟨((x_a.asideD (by omega)).asideD (by omega)).c0, ((x_a.asideD (by omega)).asideD (by omega)).c1, ((x_b.asideD (by omega)).asideD (by omega)).c0, ((x_b.asideD (by omega)).asideD (by omega)).c1, ((x_cap.asideD (by omega)).asideD (by omega)).c0, ((x_cap.asideD (by omega)).asideD (by omega)).c1, ((x_cap.asideD (by omega)).asideD (by omega)).c2, ((x_cap.asideD (by omega)).asideD (by omega)).c3, ((x_cap.asideD (by omega)).asideD (by omega)).c4⟩) | (with_reducible exact ⟨(x_a.asideL (by omega)).c0, (x_a.asideL (by omega)).c1, (x_b.asideL (by omega)).c0, (x_b.asideL (by omega)).c1, (x_cap.asideL (by omega)).c0, (x_cap.asideL (by omega)).c1, (x_cap.asideL (by omega)).c2, (x_cap.asideL (by omega)).c3, (x_cap.asideL (by omega)).c4⟩) | (with_reducible exact ⟨((x_a.asideL (by omega)).asideL (by omega)).c0, ((x_a.asideL (by omega)).asideL (by omega)).c1, ((x_b.asideL (by omega)).asideL (by omega)).c0, ((x_b.asideL (by omega)).asideL (by omega)).c1, ((x_cap.asideL (by omega)).asideL (by omega)).c0, ((x_cap.asideL (by omega)).asideL (by omega)).c1, ((x_cap.asideL (by omega)).asideL (by omega)).c2, ((x_cap.asideL (by omega)).asideL (by omega)).c3, ((x_cap.asideL (by omega)).asideL (by omega)).c4⟩) | go_keep)
  (first | (go_at_call 20; (with_reducible refine (ZMul_any h.drw h2.drw (j + j2) (Nat.le_refl _) (by omega)).mono ?_); rintro e v2 ⟨A7, n7, c7, rfl, zm, hb1⟩; replace hb1 := undrew hb1; obtain ⟨x_a, x_b, x_x, x_y, x_cap, h, h2, hb⟩ := mv8 hb1 x_a x_b x_x x_y x_cap h h2 hb; clear hb1; replace q_a := x_a.al; replace q_b := x_b.al; replace q_x := x_x.al; replace q_y := x_y.al; replace q_cap := x_cap.al; rw [HZ.out] at zm ⊢) | (go_at_call 250; (with_reducible refine (scale_any zm.zr (-q) (by omega) k hk hj).mono ?_); rintro e v3 ⟨A5, n5, c5, A6, n6, c6, rfl, z5, z6, hb1⟩; obtain ⟨x_a, x_b, x_x, x_y, x_cap, h, h2, zm, hb⟩ := mv9 hb1 x_a x_b x_x x_y x_cap h h2 zm hb; clear hb1; replace q_a := x_a.al; replace q_b := x_b.al; replace q_x := x_x.al; replace q_y := x_y.al; replace q_cap := x_cap.al))
 go_wp2
 clear q_a q_b q_x q_y q_cap
 refine x_x.st2 x_y (by omega) fun _ v4 hs hs2 hx hy => ?_
 obtain ⟨x_a, x_b, x_cap, h, h2, zm, z5, z6, hb⟩ := ms9 hs ⟨by omega, by omega, by omega, trivial, trivial, trivial, trivial, trivial, by omega⟩ x_a x_b x_cap h h2 zm z5 z6 hb
 obtain ⟨x_a, x_b, x_cap, h, h2, zm, z5, z6, hb⟩ := ms9 hs2 ⟨by omega, by omega, by omega, trivial, trivial, trivial, trivial, trivial, by omega⟩ x_a x_b x_cap h h2 zm z5 z6 hb
 replace x_x := hx; replace x_y := hy; clear hx hy hs hs2
 have q_a := x_a.al
 have q_b := x_b.al
 have q_x := x_x.al
 have q_y := x_y.al
 have q_cap := x_cap.al
 refine bodyPost_ret (v := .tuple #[.agg #[.bool (ngB (flI Z (-q))), .slice A5 n5 c5], .agg #[.bool (ngB (-flI (-Z) (-q))), .slice A6 n6 c6]]) (by simp [results, Tryz.results249, go_sem, q_x, q_y]) rfl ?_
 exact ⟨_, _, _, _, _, _, rfl, z5, z6, hb⟩
theorem atDiv_any (h : Zr w b A n c X j) (h2 : Zr w b2 A2 n2 c2 Y j2) {g : Nat} {b3 b4 : Bool} {A3 A4 : Option Addr} {n3 c3 n4 c4 : Nat} {q : Int} (x_cap : Lx w g b3 A3 n3 c3 b4 A4 n4 c4 q) (hq : 0 ≤ q ∧ q ≤ 2048) (hY : Y ≠ 0) (k : Nat) (hk : j + 130 ≤ k) (hk2 : j2 + 1 ≤ k) (hj : k ≤ 1000000) :
  Calls Tryz.prog 221 #[.agg #[.bool b, .slice A n c], .agg #[.bool b2, .slice A2 n2 c2], .pointer (some ⟨g, 0, none⟩)] w (Out2Z w (fdI (X * 2 ^ q.toNat) Y) (cdI (X * 2 ^ q.toNat) Y) k) := by
 have hsc : X * 2 ^ sc q = X * 2 ^ q.toNat := by rw [sc_toNat hq.1 (by omega)]
 obtain ⟨Z, hZ⟩ : ∃ Z, X * 2 ^ q.toNat = Z := ⟨_, rfl⟩
 rw [hZ] at hsc ⊢
 have HSC := Lib.hid hsc; clear hsc hZ
 have hl_cap := x_cap.lt
 go_enter Tryz.func221, Tryz.ntmps221
 go_wp2_with fail
 refine al4 fun v1 hb x_a x_b x_x x_y => ?_
 replace x_a := Bx.of x_a; replace x_b := Bx.of x_b; replace x_x := Bx.of x_x; replace x_y := Bx.of x_y
 obtain ⟨h, h2, x_cap⟩ := mv3 hb h h2 x_cap
 have q_a := x_a.al
 have q_b := x_b.al
 have q_x := x_x.al
 have q_y := x_y.al
 have q_cap := x_cap.al
 go_wp2_with fail
 go_region_held3 (fun w' => w'.cell? ⟨w.heap.size, 0, none⟩ = some (.bool b) ∧ w'.cell? ⟨w.heap.size, 1, none⟩ = some (.slice A n c) ∧ w'.cell? ⟨w.heap.size + 1, 0, none⟩ = some (.bool b2) ∧ w'.cell? ⟨w.heap.size + 1, 1, none⟩ = some (.slice A2 n2 c2) ∧ w'.cell? ⟨g, 0, none⟩ = some (.bool b3) ∧ w'.cell? ⟨g, 1, none⟩ = some (.slice A3 n3 c3) ∧ w'.cell? ⟨g, 2, none⟩ = some (.bool b4) ∧ w'.cell? ⟨g, 3, none⟩ = some (.slice A4 n4 c4) ∧ w'.cell? ⟨g, 4, none⟩ = some (.int .i64 q))
  (first | (with_reducible exact ⟨x_a.c0, x_a.c1, x_b.c0, x_b.c1, x_cap.c0, x_cap.c1, x_cap.c2, x_cap.c3, x_cap.c4⟩) | (with_reducible exact ⟨(x_a.aside (by omega)).c0, (x_a.aside (by omega)).c1, (x_b.aside (by omega)).c0, (x_b.aside (by omega)).c1, (x_cap.aside (by omega)).c0, (x_cap.aside (by omega)).c1, (x_cap.aside (by omega)).c2, (x_cap.aside (by omega)).c3, (x_cap.aside (by omega)).c4⟩) | (with_reducible exact ⟨((x_a.aside (by omega)).aside (by omega)).c0, ((x_a.aside (by omega)).aside (by omega)).c1, ((x_b.aside (by omega)).aside (by omega)).c0, ((x_b.aside (by omega)).aside (by omega)).c1, ((x_cap.aside (by omega)).aside (by omega)).c0, ((x_cap.aside (by omega)).aside (by omega)).c1, ((x_cap.aside (by omega)).aside (by omega)).c2, ((x_cap.aside (by omega)).aside (by omega)).c3, ((x_cap.aside (by omega)).aside (by omega)).c4⟩) | (with_reducible exact ⟨(x_a.asideD (by omega)).c0, (x_a.asideD (by omega)).c1, (x_b.asideD (by omega)).c0, (x_b.asideD (by omega)).c1, (x_cap.asideD (by omega)).c0, (x_cap.asideD (by omega)).c1, (x_cap.asideD (by omega)).c2, (x_cap.asideD (by omega)).c3, (x_cap.asideD (by omega)).c4⟩) | (with_reducible exact ⟨((x_a.asideD (by omega)).asideD (by omega)).c0, ((x_a.asideD (by omega)).asideD (by omega)).c1, ((x_b.asideD (by omega)).asideD (by omega)).c0, ((x_b.asideD (by omega)).asideD (by omega)).c1, ((x_cap.asideD (by omega)).asideD (by omega)).c0, ((x_cap.asideD (by omega)).asideD (by omega)).c1, ((x_cap.asideD (by omega)).asideD (by omega)).c2, ((x_cap.asideD (by omega)).asideD (by omega)).c3, ((x_cap.asideD (by omega)).asideD (by omega)).c4⟩) | (with_reducible exact ⟨(x_a.asideL (by omega)).c0, (x_a.asideL (by omega)).c1, (x_b.asideL (by omega)).c0, (x_b.asideL (by omega)).c1, (x_cap.asideL (by omega)).c0, (x_cap.asideL (by omega)).c1, (x_cap.asideL (by omega)).c2, (x_cap.asideL (by omega)).c3, (x_cap.asideL (by omega)).c4⟩) | (with_reducible exact ⟨((x_a.asideL (by omega)).asideL (by omega)).c0, ((x_a.asideL (by omega)).asideL (by omega)).c1, ((x_b.asideL (by omega)).asideL (by omega)).c0, ((x_b.asideL (by omega)).asideL (by omega)).c1, ((x_cap.asideL (by omega)).asideL (by omega)).c0, ((x_cap.asideL (by omega)).asideL (by omega)).c1, ((x_cap.asideL (by omega)).asideL (by omega)).c2, ((x_cap.asideL (by omega)).asideL (by omega)).c3, ((x_cap.asideL (by omega)).asideL (by omega)).c4⟩) | go_keep)
  (first | (go_at_call 24; (with_reducible refine (ZShl_any h.drw q (j + 128) (Nat.le_refl _) (by omega)).mono ?_); rintro e v2 ⟨A7, n7, c7, rfl, zm, hb1⟩; replace hb1 := undrew hb1; obtain ⟨x_a, x_b, x_x, x_y, x_cap, h, h2, hb⟩ := mv8 hb1 x_a x_b x_x x_y x_cap h h2 hb; clear hb1; replace q_a := x_a.al; replace q_b := x_b.al; replace q_x := x_x.al; replace q_y := x_y.al; replace q_cap := x_cap.al; rw [HSC.out] at zm ⊢) | (go_at_call 222; (with_reducible refine (divide_any zm.zr h2 hY k (by omega) hk2 hj).mono ?_); rintro e v3 ⟨A5, n5, c5, A6, n6, c6, rfl, z5, z6, hb1⟩; obtain ⟨x_a, x_b, x_x, x_y, x_cap, h, h2, zm, hb⟩ := mv9 hb1 x_a x_b x_x x_y x_cap h h2 zm hb; clear hb1; replace q_a := x_a.al; replace q_b := x_b.al; replace q_x := x_x.al; replace q_y := x_y.al; replace q_cap := x_cap.al))
 go_wp2
 clear q_a q_b q_x q_y q_cap
 refine x_x.st2 x_y (by omega) fun _ v4 hs hs2 hx hy => ?_
 obtain ⟨x_a, x_b, x_cap, h, h2, zm, z5, z6, hb⟩ := ms9 hs ⟨by omega, by omega, by omega, trivial, trivial, trivial, trivial, trivial, by omega⟩ x_a x_b x_cap h h2 zm z5 z6 hb
 obtain ⟨x_a, x_b, x_cap, h, h2, zm, z5, z6, hb⟩ := ms9 hs2 ⟨by omega, by omega, by omega, trivial, trivial, trivial, trivial, trivial, by omega⟩ x_a x_b x_cap h h2 zm z5 z6 hb
 replace x_x := hx; replace x_y := hy; clear hx hy hs hs2
 have q_a := x_a.al
 have q_b := x_b.al
 have q_x := x_x.al
 have q_y := x_y.al
 have q_cap := x_cap.al
 refine bodyPost_ret (v := .tuple #[.agg #[.bool (ngB (fdI Z Y)), .slice A5 n5 c5], .agg #[.bool (ngB (cdI Z Y)), .slice A6 n6 c6]]) (by simp [results, Tryz.results221, go_sem, q_x, q_y]) rfl ?_
 exact ⟨_, _, _, _, _, _, rfl, z5, z6, hb⟩
end Go.Proofs.YtdonaominffpnaaGreatDoor
