/-
  The document's answer for zed: Add, Sub, Mul.
-/
import Derived.Test.YtcoidcbbdibnaaaDoorZref
import Derived.Test.YtcoidcbbdibnaaaDoorRmul
namespace Go.Proofs.YtcoidcbbdibnaaaDoor
open Go.RowKit
set_option linter.unusedVariables false

theorem addn_same {X Y : Int} (h : ngB X = ngB Y) : X + Y = zi (ngB X) (X.natAbs + Y.natAbs) := by
  unfold ngB zi at *; by_cases hx : X < 0 <;> by_cases hy : Y < 0 <;> simp [hx, hy] at h ⊢ <;> omega
theorem addn_sub {X Y : Int} (h : ngB X ≠ ngB Y) (hle : Y.natAbs ≤ X.natAbs) : X + Y = zi (ngB X) (X.natAbs - Y.natAbs) := by
  unfold ngB zi at *; by_cases hx : X < 0 <;> by_cases hy : Y < 0 <;> simp [hx, hy] at h ⊢ <;> omega
theorem addn_sub' {X Y : Int} (h : ngB X ≠ ngB Y) (hlt : X.natAbs < Y.natAbs) : X + Y = zi (ngB Y) (Y.natAbs - X.natAbs) := by
  unfold ngB zi at *; by_cases hx : X < 0 <;> by_cases hy : Y < 0 <;> simp [hx, hy] at h ⊢ <;> omega

set_option maxRecDepth 100000 in
set_option maxHeartbeats 8000000 in
theorem RAddZ_any {b b2 : Bool} {A A2 : Option Addr} {n c n2 c2 : Nat} {X Y : Int} {j j2 : Nat} {w : World} (h : Zr w b A n c X j) (h2 : Zr w b2 A2 n2 c2 Y j2) (k : Nat) (hk : j + 1 ≤ k) (hk2 : j2 + 1 ≤ k) (hj : k ≤ 100000) :
    Calls Tryd.prog 54 #[.agg #[.bool b, .slice A n c], .agg #[.bool b2, .slice A2 n2 c2]] w (OutZ w (X + Y) k) := by
  have hs : Sm X.natAbs (k - 1) := (h.si).mono (by omega)
  have hs2 : Sm Y.natAbs (k - 1) := (h2.si).mono (by omega)
  by_cases hbb : ngB X = ngB Y
  · have hbt : (ngB X == ngB Y) = true := by simp [hbb]
    rw [addn_same hbb]
    have hs3 : Sm (X.natAbs + Y.natAbs) k := (hs.add hs2).mono (by omega)
    clear hs hs2 hbb
    go_enter Tryd.func54, Tryd.ntmps54
    go_wp2_with fail
    obtain ⟨hb, x_a, x_b, x_r⟩ := box3 w b A n c b2 A2 n2 c2 false none 0 0
    generalize ((w.alloc (.cells #[.bool b, .slice A n c] 24)).alloc (.cells #[.bool b2, .slice A2 n2 c2] 24)).alloc (.cells #[.bool false, .slice none 0 0] 24) = v1 at *
    replace h := h.keep hb
    replace h2 := h2.keep hb
    have q_a0 := x_a.c0; have q_a1 := x_a.c1; have f_a0 := x_a.fr 0; have f_a1 := x_a.fr 1
    have q_b0 := x_b.c0; have q_b1 := x_b.c1; have f_b0 := x_b.fr 0; have f_b1 := x_b.fr 1
    have q_r0 := x_r.c0; have q_r1 := x_r.c1; have f_r0 := x_r.fr 0; have f_r1 := x_r.fr 1
    go_wp2_with fail
    with_reducible refine (RNormZ_any h j (Nat.le_refl _) (by omega)).mono ?_
    rintro e v2 ⟨A3, n3, c3, rfl, za, hb1⟩
    replace x_a := x_a.keep hb1
    replace x_b := x_b.keep hb1
    replace x_r := x_r.keep hb1
    replace h := h.keep hb1
    replace h2 := h2.keep hb1
    replace hb := bthen hb hb1
    clear hb1
    replace q_a0 := x_a.c0; replace q_a1 := x_a.c1; replace f_a0 := x_a.fr 0; replace f_a1 := x_a.fr 1
    replace q_b0 := x_b.c0; replace q_b1 := x_b.c1; replace f_b0 := x_b.fr 0; replace f_b1 := x_b.fr 1
    replace q_r0 := x_r.c0; replace q_r1 := x_r.c1; replace f_r0 := x_r.fr 0; replace f_r1 := x_r.fr 1
    clear h
    go_wp2_with fail
    replace x_b := x_b.aside (b' := (ngB X)) (A' := A3) (n' := n3) (c' := c3) (g := w.heap.size) (by omega)
    replace x_r := x_r.aside (b' := (ngB X)) (A' := A3) (n' := n3) (c' := c3) (g := w.heap.size) (by omega)
    replace h2 := h2.put (b' := (ngB X)) (A' := A3) (n' := n3) (c' := c3) x_a
    replace za := za.put (b' := (ngB X)) (A' := A3) (n' := n3) (c' := c3) x_a
    replace hb := put_below (g := w.heap.size) hb (by omega) (.bool (ngB X)) (.slice A3 n3 c3)
    replace x_a := x_a.put (ngB X) A3 n3 c3
    clear q_a0 q_a1 f_a0 f_a1 q_b0 q_b1 f_b0 f_b1 q_r0 q_r1 f_r0 f_r1
    generalize (v2.setCell ⟨w.heap.size, 0, none⟩ (.bool (ngB X))).setCell ⟨w.heap.size, 1, none⟩ (.slice A3 n3 c3) = v3 at *
    have q_a0 := x_a.c0; have q_a1 := x_a.c1; have f_a0 := x_a.fr 0; have f_a1 := x_a.fr 1
    have q_b0 := x_b.c0; have q_b1 := x_b.c1; have f_b0 := x_b.fr 0; have f_b1 := x_b.fr 1
    have q_r0 := x_r.c0; have q_r1 := x_r.c1; have f_r0 := x_r.fr 0; have f_r1 := x_r.fr 1
    with_reducible refine (RNormZ_any h2 j2 (Nat.le_refl _) (by omega)).mono ?_
    rintro e v4 ⟨A4, n4, c4, rfl, zb, hb1⟩
    replace x_a := x_a.keep hb1
    replace x_b := x_b.keep hb1
    replace x_r := x_r.keep hb1
    replace h2 := h2.keep hb1
    replace za := za.keep hb1
    replace hb := bthen hb hb1
    clear hb1
    replace q_a0 := x_a.c0; replace q_a1 := x_a.c1; replace f_a0 := x_a.fr 0; replace f_a1 := x_a.fr 1
    replace q_b0 := x_b.c0; replace q_b1 := x_b.c1; replace f_b0 := x_b.fr 0; replace f_b1 := x_b.fr 1
    replace q_r0 := x_r.c0; replace q_r1 := x_r.c1; replace f_r0 := x_r.fr 0; replace f_r1 := x_r.fr 1
    clear h2
    go_wp2_with fail
    replace x_a := x_a.aside (b' := (ngB Y)) (A' := A4) (n' := n4) (c' := c4) (g := w.heap.size + 1) (by omega)
    replace x_r := x_r.aside (b' := (ngB Y)) (A' := A4) (n' := n4) (c' := c4) (g := w.heap.size + 1) (by omega)
    replace za := za.put (b' := (ngB Y)) (A' := A4) (n' := n4) (c' := c4) x_b
    replace zb := zb.put (b' := (ngB Y)) (A' := A4) (n' := n4) (c' := c4) x_b
    replace hb := put_below (g := w.heap.size + 1) hb (by omega) (.bool (ngB Y)) (.slice A4 n4 c4)
    replace x_b := x_b.put (ngB Y) A4 n4 c4
    clear q_a0 q_a1 f_a0 f_a1 q_b0 q_b1 f_b0 f_b1 q_r0 q_r1 f_r0 f_r1
    generalize (v4.setCell ⟨w.heap.size + 1, 0, none⟩ (.bool (ngB Y))).setCell ⟨w.heap.size + 1, 1, none⟩ (.slice A4 n4 c4) = v5 at *
    have q_a0 := x_a.c0; have q_a1 := x_a.c1; have f_a0 := x_a.fr 0; have f_a1 := x_a.fr 1
    have q_b0 := x_b.c0; have q_b1 := x_b.c1; have f_b0 := x_b.fr 0; have f_b1 := x_b.fr 1
    have q_r0 := x_r.c0; have q_r1 := x_r.c1; have f_r0 := x_r.fr 0; have f_r1 := x_r.fr 1
    have ha := za.1; have hz1 := za.2; have hbz := zb.1; have hz2 := zb.2
    clear za zb
    skip
    go_region_held3 (fun w' => w'.cell? ⟨w.heap.size, 0, none⟩ = some (.bool (ngB X)) ∧ w'.cell? ⟨w.heap.size, 1, none⟩ = some (.slice A3 n3 c3) ∧ w'.cell? ⟨w.heap.size + 1, 0, none⟩ = some (.bool (ngB Y)) ∧ w'.cell? ⟨w.heap.size + 1, 1, none⟩ = some (.slice A4 n4 c4))
      (first | (with_reducible exact ⟨x_a.c0, x_a.c1, x_b.c0, x_b.c1⟩) | (with_reducible exact ⟨(x_a.aside (by omega)).c0, (x_a.aside (by omega)).c1, (x_b.aside (by omega)).c0, (x_b.aside (by omega)).c1⟩) | (with_reducible exact ⟨((x_a.aside (by omega)).aside (by omega)).c0, ((x_a.aside (by omega)).aside (by omega)).c1, ((x_b.aside (by omega)).aside (by omega)).c0, ((x_b.aside (by omega)).aside (by omega)).c1⟩) | go_keep)
      (first | (go_at_call 83; (with_reducible refine (RAdd_any _ _ _ _ _ _ _ _ _ ha.drw hbz.drw (by omega) (by omega)).mono ?_); rintro e v6 ⟨A1, n1, c1, rfl, g1, hb1⟩; replace hb1 := undrew hb1; replace x_a := x_a.keep hb1; replace x_b := x_b.keep hb1; replace x_r := x_r.keep hb1; replace ha := ha.go hb1; replace hbz := hbz.go hb1; replace hb := bthen hb hb1; clear hb1; replace q_a0 := x_a.c0; replace q_a1 := x_a.c1; replace f_a0 := x_a.fr 0; replace f_a1 := x_a.fr 1; replace q_b0 := x_b.c0; replace q_b1 := x_b.c1; replace f_b0 := x_b.fr 0; replace f_b1 := x_b.fr 1; replace q_r0 := x_r.c0; replace q_r1 := x_r.c1; replace f_r0 := x_r.fr 0; replace f_r1 := x_r.fr 1; rw [vl_dg Wd2, vl_dg Wd2] at g1; have zn1 := g1.small hs3) | (go_at_call 82; (with_reducible refine (RMake_any (b := ngB X) g1 (X.natAbs + Y.natAbs) k (vl_dg Wd2 _) hs3 (by omega)).mono ?_); rintro e v7 ⟨A2_, n2_, c2_, rfl, z1, hb1⟩; replace x_a := x_a.keep hb1; replace x_b := x_b.keep hb1; replace x_r := x_r.keep hb1; replace ha := ha.go hb1; replace hbz := hbz.go hb1; replace g1 := g1.go hb1; replace hb := bthen hb hb1; clear hb1; replace q_a0 := x_a.c0; replace q_a1 := x_a.c1; replace f_a0 := x_a.fr 0; replace f_a1 := x_a.fr 1; replace q_b0 := x_b.c0; replace q_b1 := x_b.c1; replace f_b0 := x_b.fr 0; replace f_b1 := x_b.fr 1; replace q_r0 := x_r.c0; replace q_r1 := x_r.c1; replace f_r0 := x_r.fr 0; replace f_r1 := x_r.fr 1))
    go_wp2
    replace x_a := x_a.aside (b' := (ngB (zi (ngB X) (X.natAbs + Y.natAbs)))) (A' := A2_) (n' := n2_) (c' := c2_) (g := w.heap.size + 1 + 1) (by omega)
    replace x_b := x_b.aside (b' := (ngB (zi (ngB X) (X.natAbs + Y.natAbs)))) (A' := A2_) (n' := n2_) (c' := c2_) (g := w.heap.size + 1 + 1) (by omega)
    replace ha := ha.sput (b' := (ngB (zi (ngB X) (X.natAbs + Y.natAbs)))) (A' := A2_) (n' := n2_) (c' := c2_) x_r
    replace hbz := hbz.sput (b' := (ngB (zi (ngB X) (X.natAbs + Y.natAbs)))) (A' := A2_) (n' := n2_) (c' := c2_) x_r
    replace g1 := g1.sput (b' := (ngB (zi (ngB X) (X.natAbs + Y.natAbs)))) (A' := A2_) (n' := n2_) (c' := c2_) x_r
    replace z1 := z1.put (b' := (ngB (zi (ngB X) (X.natAbs + Y.natAbs)))) (A' := A2_) (n' := n2_) (c' := c2_) x_r
    replace hb := put_below (g := w.heap.size + 1 + 1) hb (by omega) (.bool (ngB (zi (ngB X) (X.natAbs + Y.natAbs)))) (.slice A2_ n2_ c2_)
    replace x_r := x_r.put (ngB (zi (ngB X) (X.natAbs + Y.natAbs))) A2_ n2_ c2_
    clear q_a0 q_a1 f_a0 f_a1 q_b0 q_b1 f_b0 f_b1 q_r0 q_r1 f_r0 f_r1
    generalize (v7.setCell ⟨w.heap.size + 1 + 1, 0, none⟩ (.bool (ngB (zi (ngB X) (X.natAbs + Y.natAbs))))).setCell ⟨w.heap.size + 1 + 1, 1, none⟩ (.slice A2_ n2_ c2_) = v8 at *
    have q_a0 := x_a.c0; have q_a1 := x_a.c1; have f_a0 := x_a.fr 0; have f_a1 := x_a.fr 1
    have q_b0 := x_b.c0; have q_b1 := x_b.c1; have f_b0 := x_b.fr 0; have f_b1 := x_b.fr 1
    have q_r0 := x_r.c0; have q_r1 := x_r.c1; have f_r0 := x_r.fr 0; have f_r1 := x_r.fr 1
    refine bodyPost_ret (v := .agg #[.bool (ngB (zi (ngB X) (X.natAbs + Y.natAbs))), .slice A2_ n2_ c2_]) (by simp [results, Tryd.results54, go_sem, q_r0, q_r1]) rfl ?_
    exact ⟨_, _, _, rfl, z1, hb⟩
  · have hbt : (ngB X == ngB Y) = false := by simpa using hbb
    rcases Nat.lt_or_ge X.natAbs Y.natAbs with hlt | hge
    · rw [addn_sub' hbb hlt]
      have hs3 : Sm (Y.natAbs - X.natAbs) k := (hs2.mono (by omega)).sub
      clear hs hs2 hbb
      go_enter Tryd.func54, Tryd.ntmps54
      go_wp2_with fail
      obtain ⟨hb, x_a, x_b, x_r⟩ := box3 w b A n c b2 A2 n2 c2 false none 0 0
      generalize ((w.alloc (.cells #[.bool b, .slice A n c] 24)).alloc (.cells #[.bool b2, .slice A2 n2 c2] 24)).alloc (.cells #[.bool false, .slice none 0 0] 24) = v1 at *
      replace h := h.keep hb
      replace h2 := h2.keep hb
      have q_a0 := x_a.c0; have q_a1 := x_a.c1; have f_a0 := x_a.fr 0; have f_a1 := x_a.fr 1
      have q_b0 := x_b.c0; have q_b1 := x_b.c1; have f_b0 := x_b.fr 0; have f_b1 := x_b.fr 1
      have q_r0 := x_r.c0; have q_r1 := x_r.c1; have f_r0 := x_r.fr 0; have f_r1 := x_r.fr 1
      go_wp2_with fail
      with_reducible refine (RNormZ_any h j (Nat.le_refl _) (by omega)).mono ?_
      rintro e v2 ⟨A3, n3, c3, rfl, za, hb1⟩
      replace x_a := x_a.keep hb1
      replace x_b := x_b.keep hb1
      replace x_r := x_r.keep hb1
      replace h := h.keep hb1
      replace h2 := h2.keep hb1
      replace hb := bthen hb hb1
      clear hb1
      replace q_a0 := x_a.c0; replace q_a1 := x_a.c1; replace f_a0 := x_a.fr 0; replace f_a1 := x_a.fr 1
      replace q_b0 := x_b.c0; replace q_b1 := x_b.c1; replace f_b0 := x_b.fr 0; replace f_b1 := x_b.fr 1
      replace q_r0 := x_r.c0; replace q_r1 := x_r.c1; replace f_r0 := x_r.fr 0; replace f_r1 := x_r.fr 1
      clear h
      go_wp2_with fail
      replace x_b := x_b.aside (b' := (ngB X)) (A' := A3) (n' := n3) (c' := c3) (g := w.heap.size) (by omega)
      replace x_r := x_r.aside (b' := (ngB X)) (A' := A3) (n' := n3) (c' := c3) (g := w.heap.size) (by omega)
      replace h2 := h2.put (b' := (ngB X)) (A' := A3) (n' := n3) (c' := c3) x_a
      replace za := za.put (b' := (ngB X)) (A' := A3) (n' := n3) (c' := c3) x_a
      replace hb := put_below (g := w.heap.size) hb (by omega) (.bool (ngB X)) (.slice A3 n3 c3)
      replace x_a := x_a.put (ngB X) A3 n3 c3
      clear q_a0 q_a1 f_a0 f_a1 q_b0 q_b1 f_b0 f_b1 q_r0 q_r1 f_r0 f_r1
      generalize (v2.setCell ⟨w.heap.size, 0, none⟩ (.bool (ngB X))).setCell ⟨w.heap.size, 1, none⟩ (.slice A3 n3 c3) = v3 at *
      have q_a0 := x_a.c0; have q_a1 := x_a.c1; have f_a0 := x_a.fr 0; have f_a1 := x_a.fr 1
      have q_b0 := x_b.c0; have q_b1 := x_b.c1; have f_b0 := x_b.fr 0; have f_b1 := x_b.fr 1
      have q_r0 := x_r.c0; have q_r1 := x_r.c1; have f_r0 := x_r.fr 0; have f_r1 := x_r.fr 1
      with_reducible refine (RNormZ_any h2 j2 (Nat.le_refl _) (by omega)).mono ?_
      rintro e v4 ⟨A4, n4, c4, rfl, zb, hb1⟩
      replace x_a := x_a.keep hb1
      replace x_b := x_b.keep hb1
      replace x_r := x_r.keep hb1
      replace h2 := h2.keep hb1
      replace za := za.keep hb1
      replace hb := bthen hb hb1
      clear hb1
      replace q_a0 := x_a.c0; replace q_a1 := x_a.c1; replace f_a0 := x_a.fr 0; replace f_a1 := x_a.fr 1
      replace q_b0 := x_b.c0; replace q_b1 := x_b.c1; replace f_b0 := x_b.fr 0; replace f_b1 := x_b.fr 1
      replace q_r0 := x_r.c0; replace q_r1 := x_r.c1; replace f_r0 := x_r.fr 0; replace f_r1 := x_r.fr 1
      clear h2
      go_wp2_with fail
      replace x_a := x_a.aside (b' := (ngB Y)) (A' := A4) (n' := n4) (c' := c4) (g := w.heap.size + 1) (by omega)
      replace x_r := x_r.aside (b' := (ngB Y)) (A' := A4) (n' := n4) (c' := c4) (g := w.heap.size + 1) (by omega)
      replace za := za.put (b' := (ngB Y)) (A' := A4) (n' := n4) (c' := c4) x_b
      replace zb := zb.put (b' := (ngB Y)) (A' := A4) (n' := n4) (c' := c4) x_b
      replace hb := put_below (g := w.heap.size + 1) hb (by omega) (.bool (ngB Y)) (.slice A4 n4 c4)
      replace x_b := x_b.put (ngB Y) A4 n4 c4
      clear q_a0 q_a1 f_a0 f_a1 q_b0 q_b1 f_b0 f_b1 q_r0 q_r1 f_r0 f_r1
      generalize (v4.setCell ⟨w.heap.size + 1, 0, none⟩ (.bool (ngB Y))).setCell ⟨w.heap.size + 1, 1, none⟩ (.slice A4 n4 c4) = v5 at *
      have q_a0 := x_a.c0; have q_a1 := x_a.c1; have f_a0 := x_a.fr 0; have f_a1 := x_a.fr 1
      have q_b0 := x_b.c0; have q_b1 := x_b.c1; have f_b0 := x_b.fr 0; have f_b1 := x_b.fr 1
      have q_r0 := x_r.c0; have q_r1 := x_r.c1; have f_r0 := x_r.fr 0; have f_r1 := x_r.fr 1
      have ha := za.1; have hz1 := za.2; have hbz := zb.1; have hz2 := zb.2
      clear za zb
      skip
      with_reducible refine (RSub_less _ _ _ _ _ _ _ _ _ ha hbz (by omega) (by omega) (by rw [vl_dg Wd2, vl_dg Wd2]; exact hlt)).mono ?_
      rintro e v6 ⟨rfl, hb1⟩
      replace x_a := x_a.keep hb1
      replace x_b := x_b.keep hb1
      replace x_r := x_r.keep hb1
      replace ha := ha.go hb1
      replace hbz := hbz.go hb1
      replace hb := bthen hb hb1
      clear hb1
      replace q_a0 := x_a.c0; replace q_a1 := x_a.c1; replace f_a0 := x_a.fr 0; replace f_a1 := x_a.fr 1
      replace q_b0 := x_b.c0; replace q_b1 := x_b.c1; replace f_b0 := x_b.fr 0; replace f_b1 := x_b.fr 1
      replace q_r0 := x_r.c0; replace q_r1 := x_r.c1; replace f_r0 := x_r.fr 0; replace f_r1 := x_r.fr 1
      go_wp2_with fail
      with_reducible refine (RSub_any _ _ _ _ _ _ _ _ _ hbz ha (by omega) (by omega) (by rw [vl_dg Wd2, vl_dg Wd2]; omega)).mono ?_
      rintro e v7 ⟨A1, n1, c1, rfl, g1, hb1⟩
      replace x_a := x_a.keep hb1
      replace x_b := x_b.keep hb1
      replace x_r := x_r.keep hb1
      replace ha := ha.go hb1
      replace hbz := hbz.go hb1
      replace hb := bthen hb hb1
      clear hb1
      replace q_a0 := x_a.c0; replace q_a1 := x_a.c1; replace f_a0 := x_a.fr 0; replace f_a1 := x_a.fr 1
      replace q_b0 := x_b.c0; replace q_b1 := x_b.c1; replace f_b0 := x_b.fr 0; replace f_b1 := x_b.fr 1
      replace q_r0 := x_r.c0; replace q_r1 := x_r.c1; replace f_r0 := x_r.fr 0; replace f_r1 := x_r.fr 1
      rw [vl_dg Wd2, vl_dg Wd2] at g1
      have zn1 := g1.small hs3
      go_wp2_with fail
      with_reducible refine (RMake_any (b := ngB Y) g1 (Y.natAbs - X.natAbs) k (vl_dg Wd2 _) hs3 (by omega)).mono ?_
      rintro e v8 ⟨A2_, n2_, c2_, rfl, z1, hb1⟩
      replace x_a := x_a.keep hb1
      replace x_b := x_b.keep hb1
      replace x_r := x_r.keep hb1
      replace ha := ha.go hb1
      replace hbz := hbz.go hb1
      replace g1 := g1.go hb1
      replace hb := bthen hb hb1
      clear hb1
      replace q_a0 := x_a.c0; replace q_a1 := x_a.c1; replace f_a0 := x_a.fr 0; replace f_a1 := x_a.fr 1
      replace q_b0 := x_b.c0; replace q_b1 := x_b.c1; replace f_b0 := x_b.fr 0; replace f_b1 := x_b.fr 1
      replace q_r0 := x_r.c0; replace q_r1 := x_r.c1; replace f_r0 := x_r.fr 0; replace f_r1 := x_r.fr 1
      go_wp2
      replace x_a := x_a.aside (b' := (ngB (zi (ngB Y) (Y.natAbs - X.natAbs)))) (A' := A2_) (n' := n2_) (c' := c2_) (g := w.heap.size + 1 + 1) (by omega)
      replace x_b := x_b.aside (b' := (ngB (zi (ngB Y) (Y.natAbs - X.natAbs)))) (A' := A2_) (n' := n2_) (c' := c2_) (g := w.heap.size + 1 + 1) (by omega)
      replace ha := ha.sput (b' := (ngB (zi (ngB Y) (Y.natAbs - X.natAbs)))) (A' := A2_) (n' := n2_) (c' := c2_) x_r
      replace hbz := hbz.sput (b' := (ngB (zi (ngB Y) (Y.natAbs - X.natAbs)))) (A' := A2_) (n' := n2_) (c' := c2_) x_r
      replace g1 := g1.sput (b' := (ngB (zi (ngB Y) (Y.natAbs - X.natAbs)))) (A' := A2_) (n' := n2_) (c' := c2_) x_r
      replace z1 := z1.put (b' := (ngB (zi (ngB Y) (Y.natAbs - X.natAbs)))) (A' := A2_) (n' := n2_) (c' := c2_) x_r
      replace hb := put_below (g := w.heap.size + 1 + 1) hb (by omega) (.bool (ngB (zi (ngB Y) (Y.natAbs - X.natAbs)))) (.slice A2_ n2_ c2_)
      replace x_r := x_r.put (ngB (zi (ngB Y) (Y.natAbs - X.natAbs))) A2_ n2_ c2_
      clear q_a0 q_a1 f_a0 f_a1 q_b0 q_b1 f_b0 f_b1 q_r0 q_r1 f_r0 f_r1
      generalize (v8.setCell ⟨w.heap.size + 1 + 1, 0, none⟩ (.bool (ngB (zi (ngB Y) (Y.natAbs - X.natAbs))))).setCell ⟨w.heap.size + 1 + 1, 1, none⟩ (.slice A2_ n2_ c2_) = v9 at *
      have q_a0 := x_a.c0; have q_a1 := x_a.c1; have f_a0 := x_a.fr 0; have f_a1 := x_a.fr 1
      have q_b0 := x_b.c0; have q_b1 := x_b.c1; have f_b0 := x_b.fr 0; have f_b1 := x_b.fr 1
      have q_r0 := x_r.c0; have q_r1 := x_r.c1; have f_r0 := x_r.fr 0; have f_r1 := x_r.fr 1
      refine bodyPost_ret (v := .agg #[.bool (ngB (zi (ngB Y) (Y.natAbs - X.natAbs))), .slice A2_ n2_ c2_]) (by simp [results, Tryd.results54, go_sem, q_r0, q_r1]) rfl ?_
      exact ⟨_, _, _, rfl, z1, hb⟩
    · rw [addn_sub hbb hge]
      have hs3 : Sm (X.natAbs - Y.natAbs) k := (hs.mono (by omega)).sub
      clear hs hs2 hbb
      go_enter Tryd.func54, Tryd.ntmps54
      go_wp2_with fail
      obtain ⟨hb, x_a, x_b, x_r⟩ := box3 w b A n c b2 A2 n2 c2 false none 0 0
      generalize ((w.alloc (.cells #[.bool b, .slice A n c] 24)).alloc (.cells #[.bool b2, .slice A2 n2 c2] 24)).alloc (.cells #[.bool false, .slice none 0 0] 24) = v1 at *
      replace h := h.keep hb
      replace h2 := h2.keep hb
      have q_a0 := x_a.c0; have q_a1 := x_a.c1; have f_a0 := x_a.fr 0; have f_a1 := x_a.fr 1
      have q_b0 := x_b.c0; have q_b1 := x_b.c1; have f_b0 := x_b.fr 0; have f_b1 := x_b.fr 1
      have q_r0 := x_r.c0; have q_r1 := x_r.c1; have f_r0 := x_r.fr 0; have f_r1 := x_r.fr 1
      go_wp2_with fail
      with_reducible refine (RNormZ_any h j (Nat.le_refl _) (by omega)).mono ?_
      rintro e v2 ⟨A3, n3, c3, rfl, za, hb1⟩
      replace x_a := x_a.keep hb1
      replace x_b := x_b.keep hb1
      replace x_r := x_r.keep hb1
      replace h := h.keep hb1
      replace h2 := h2.keep hb1
      replace hb := bthen hb hb1
      clear hb1
      replace q_a0 := x_a.c0; replace q_a1 := x_a.c1; replace f_a0 := x_a.fr 0; replace f_a1 := x_a.fr 1
      replace q_b0 := x_b.c0; replace q_b1 := x_b.c1; replace f_b0 := x_b.fr 0; replace f_b1 := x_b.fr 1
      replace q_r0 := x_r.c0; replace q_r1 := x_r.c1; replace f_r0 := x_r.fr 0; replace f_r1 := x_r.fr 1
      clear h
      go_wp2_with fail
      replace x_b := x_b.aside (b' := (ngB X)) (A' := A3) (n' := n3) (c' := c3) (g := w.heap.size) (by omega)
      replace x_r := x_r.aside (b' := (ngB X)) (A' := A3) (n' := n3) (c' := c3) (g := w.heap.size) (by omega)
      replace h2 := h2.put (b' := (ngB X)) (A' := A3) (n' := n3) (c' := c3) x_a
      replace za := za.put (b' := (ngB X)) (A' := A3) (n' := n3) (c' := c3) x_a
      replace hb := put_below (g := w.heap.size) hb (by omega) (.bool (ngB X)) (.slice A3 n3 c3)
      replace x_a := x_a.put (ngB X) A3 n3 c3
      clear q_a0 q_a1 f_a0 f_a1 q_b0 q_b1 f_b0 f_b1 q_r0 q_r1 f_r0 f_r1
      generalize (v2.setCell ⟨w.heap.size, 0, none⟩ (.bool (ngB X))).setCell ⟨w.heap.size, 1, none⟩ (.slice A3 n3 c3) = v3 at *
      have q_a0 := x_a.c0; have q_a1 := x_a.c1; have f_a0 := x_a.fr 0; have f_a1 := x_a.fr 1
      have q_b0 := x_b.c0; have q_b1 := x_b.c1; have f_b0 := x_b.fr 0; have f_b1 := x_b.fr 1
      have q_r0 := x_r.c0; have q_r1 := x_r.c1; have f_r0 := x_r.fr 0; have f_r1 := x_r.fr 1
      with_reducible refine (RNormZ_any h2 j2 (Nat.le_refl _) (by omega)).mono ?_
      rintro e v4 ⟨A4, n4, c4, rfl, zb, hb1⟩
      replace x_a := x_a.keep hb1
      replace x_b := x_b.keep hb1
      replace x_r := x_r.keep hb1
      replace h2 := h2.keep hb1
      replace za := za.keep hb1
      replace hb := bthen hb hb1
      clear hb1
      replace q_a0 := x_a.c0; replace q_a1 := x_a.c1; replace f_a0 := x_a.fr 0; replace f_a1 := x_a.fr 1
      replace q_b0 := x_b.c0; replace q_b1 := x_b.c1; replace f_b0 := x_b.fr 0; replace f_b1 := x_b.fr 1
      replace q_r0 := x_r.c0; replace q_r1 := x_r.c1; replace f_r0 := x_r.fr 0; replace f_r1 := x_r.fr 1
      clear h2
      go_wp2_with fail
      replace x_a := x_a.aside (b' := (ngB Y)) (A' := A4) (n' := n4) (c' := c4) (g := w.heap.size + 1) (by omega)
      replace x_r := x_r.aside (b' := (ngB Y)) (A' := A4) (n' := n4) (c' := c4) (g := w.heap.size + 1) (by omega)
      replace za := za.put (b' := (ngB Y)) (A' := A4) (n' := n4) (c' := c4) x_b
      replace zb := zb.put (b' := (ngB Y)) (A' := A4) (n' := n4) (c' := c4) x_b
      replace hb := put_below (g := w.heap.size + 1) hb (by omega) (.bool (ngB Y)) (.slice A4 n4 c4)
      replace x_b := x_b.put (ngB Y) A4 n4 c4
      clear q_a0 q_a1 f_a0 f_a1 q_b0 q_b1 f_b0 f_b1 q_r0 q_r1 f_r0 f_r1
      generalize (v4.setCell ⟨w.heap.size + 1, 0, none⟩ (.bool (ngB Y))).setCell ⟨w.heap.size + 1, 1, none⟩ (.slice A4 n4 c4) = v5 at *
      have q_a0 := x_a.c0; have q_a1 := x_a.c1; have f_a0 := x_a.fr 0; have f_a1 := x_a.fr 1
      have q_b0 := x_b.c0; have q_b1 := x_b.c1; have f_b0 := x_b.fr 0; have f_b1 := x_b.fr 1
      have q_r0 := x_r.c0; have q_r1 := x_r.c1; have f_r0 := x_r.fr 0; have f_r1 := x_r.fr 1
      have ha := za.1; have hz1 := za.2; have hbz := zb.1; have hz2 := zb.2
      clear za zb
      skip
      with_reducible refine (RSub_any _ _ _ _ _ _ _ _ _ ha hbz (by omega) (by omega) (by rw [vl_dg Wd2, vl_dg Wd2]; exact hge)).mono ?_
      rintro e v6 ⟨A1, n1, c1, rfl, g1, hb1⟩
      replace x_a := x_a.keep hb1
      replace x_b := x_b.keep hb1
      replace x_r := x_r.keep hb1
      replace ha := ha.go hb1
      replace hbz := hbz.go hb1
      replace hb := bthen hb hb1
      clear hb1
      replace q_a0 := x_a.c0; replace q_a1 := x_a.c1; replace f_a0 := x_a.fr 0; replace f_a1 := x_a.fr 1
      replace q_b0 := x_b.c0; replace q_b1 := x_b.c1; replace f_b0 := x_b.fr 0; replace f_b1 := x_b.fr 1
      replace q_r0 := x_r.c0; replace q_r1 := x_r.c1; replace f_r0 := x_r.fr 0; replace f_r1 := x_r.fr 1
      rw [vl_dg Wd2, vl_dg Wd2] at g1
      have zn1 := g1.small hs3
      go_wp2_with fail
      with_reducible refine (RMake_any (b := ngB X) g1 (X.natAbs - Y.natAbs) k (vl_dg Wd2 _) hs3 (by omega)).mono ?_
      rintro e v7 ⟨A2_, n2_, c2_, rfl, z1, hb1⟩
      replace x_a := x_a.keep hb1
      replace x_b := x_b.keep hb1
      replace x_r := x_r.keep hb1
      replace ha := ha.go hb1
      replace hbz := hbz.go hb1
      replace g1 := g1.go hb1
      replace hb := bthen hb hb1
      clear hb1
      replace q_a0 := x_a.c0; replace q_a1 := x_a.c1; replace f_a0 := x_a.fr 0; replace f_a1 := x_a.fr 1
      replace q_b0 := x_b.c0; replace q_b1 := x_b.c1; replace f_b0 := x_b.fr 0; replace f_b1 := x_b.fr 1
      replace q_r0 := x_r.c0; replace q_r1 := x_r.c1; replace f_r0 := x_r.fr 0; replace f_r1 := x_r.fr 1
      go_wp2
      replace x_a := x_a.aside (b' := (ngB (zi (ngB X) (X.natAbs - Y.natAbs)))) (A' := A2_) (n' := n2_) (c' := c2_) (g := w.heap.size + 1 + 1) (by omega)
      replace x_b := x_b.aside (b' := (ngB (zi (ngB X) (X.natAbs - Y.natAbs)))) (A' := A2_) (n' := n2_) (c' := c2_) (g := w.heap.size + 1 + 1) (by omega)
      replace ha := ha.sput (b' := (ngB (zi (ngB X) (X.natAbs - Y.natAbs)))) (A' := A2_) (n' := n2_) (c' := c2_) x_r
      replace hbz := hbz.sput (b' := (ngB (zi (ngB X) (X.natAbs - Y.natAbs)))) (A' := A2_) (n' := n2_) (c' := c2_) x_r
      replace g1 := g1.sput (b' := (ngB (zi (ngB X) (X.natAbs - Y.natAbs)))) (A' := A2_) (n' := n2_) (c' := c2_) x_r
      replace z1 := z1.put (b' := (ngB (zi (ngB X) (X.natAbs - Y.natAbs)))) (A' := A2_) (n' := n2_) (c' := c2_) x_r
      replace hb := put_below (g := w.heap.size + 1 + 1) hb (by omega) (.bool (ngB (zi (ngB X) (X.natAbs - Y.natAbs)))) (.slice A2_ n2_ c2_)
      replace x_r := x_r.put (ngB (zi (ngB X) (X.natAbs - Y.natAbs))) A2_ n2_ c2_
      clear q_a0 q_a1 f_a0 f_a1 q_b0 q_b1 f_b0 f_b1 q_r0 q_r1 f_r0 f_r1
      generalize (v7.setCell ⟨w.heap.size + 1 + 1, 0, none⟩ (.bool (ngB (zi (ngB X) (X.natAbs - Y.natAbs))))).setCell ⟨w.heap.size + 1 + 1, 1, none⟩ (.slice A2_ n2_ c2_) = v8 at *
      have q_a0 := x_a.c0; have q_a1 := x_a.c1; have f_a0 := x_a.fr 0; have f_a1 := x_a.fr 1
      have q_b0 := x_b.c0; have q_b1 := x_b.c1; have f_b0 := x_b.fr 0; have f_b1 := x_b.fr 1
      have q_r0 := x_r.c0; have q_r1 := x_r.c1; have f_r0 := x_r.fr 0; have f_r1 := x_r.fr 1
      refine bodyPost_ret (v := .agg #[.bool (ngB (zi (ngB X) (X.natAbs - Y.natAbs))), .slice A2_ n2_ c2_]) (by simp [results, Tryd.results54, go_sem, q_r0, q_r1]) rfl ?_
      exact ⟨_, _, _, rfl, z1, hb⟩

set_option maxRecDepth 100000 in
set_option maxHeartbeats 4000000 in
theorem RSubZ_any {b b2 : Bool} {A A2 : Option Addr} {n c n2 c2 : Nat} {X Y : Int} {j j2 : Nat} {w : World} (h : Zr w b A n c X j) (h2 : Zr w b2 A2 n2 c2 Y j2) (k : Nat) (hk : j + 1 ≤ k) (hk2 : j2 + 1 ≤ k) (hj : k ≤ 100000) :
    Calls Tryd.prog 56 #[.agg #[.bool b, .slice A n c], .agg #[.bool b2, .slice A2 n2 c2]] w (OutZ w (X - Y) k) := by
  rw [Int.sub_eq_add_neg]
  go_enter Tryd.func56, Tryd.ntmps56
  go_wp2_with fail
  obtain ⟨hb, x_a, x_b, x_r⟩ := box3 w b A n c b2 A2 n2 c2 false none 0 0
  generalize ((w.alloc (.cells #[.bool b, .slice A n c] 24)).alloc (.cells #[.bool b2, .slice A2 n2 c2] 24)).alloc (.cells #[.bool false, .slice none 0 0] 24) = v1 at *
  replace h := h.keep hb
  replace h2 := h2.keep hb
  have q_a0 := x_a.c0; have q_a1 := x_a.c1; have f_a0 := x_a.fr 0; have f_a1 := x_a.fr 1
  have q_b0 := x_b.c0; have q_b1 := x_b.c1; have f_b0 := x_b.fr 0; have f_b1 := x_b.fr 1
  have q_r0 := x_r.c0; have q_r1 := x_r.c1; have f_r0 := x_r.fr 0; have f_r1 := x_r.fr 1
  go_wp2_with fail
  go_region_held3 (fun w' => w'.cell? ⟨w.heap.size, 0, none⟩ = some (.bool b) ∧ w'.cell? ⟨w.heap.size, 1, none⟩ = some (.slice A n c) ∧ w'.cell? ⟨w.heap.size + 1, 0, none⟩ = some (.bool b2) ∧ w'.cell? ⟨w.heap.size + 1, 1, none⟩ = some (.slice A2 n2 c2))
    (first | (with_reducible exact ⟨x_a.c0, x_a.c1, x_b.c0, x_b.c1⟩) | (with_reducible exact ⟨(x_a.aside (by omega)).c0, (x_a.aside (by omega)).c1, (x_b.aside (by omega)).c0, (x_b.aside (by omega)).c1⟩) | (with_reducible exact ⟨((x_a.aside (by omega)).aside (by omega)).c0, ((x_a.aside (by omega)).aside (by omega)).c1, ((x_b.aside (by omega)).aside (by omega)).c0, ((x_b.aside (by omega)).aside (by omega)).c1⟩) | go_keep)
    (first | (go_at_call 60; (with_reducible refine (RNegZ_any h2.drw j2 (Nat.le_refl _) (by omega)).mono ?_); rintro e v2 ⟨A3, n3, c3, rfl, z3, hb1⟩; replace hb1 := undrew hb1; replace x_a := x_a.keep hb1; replace x_b := x_b.keep hb1; replace x_r := x_r.keep hb1; replace h := h.keep hb1; replace h2 := h2.keep hb1; replace hb := bthen hb hb1; clear hb1; replace q_a0 := x_a.c0; replace q_a1 := x_a.c1; replace f_a0 := x_a.fr 0; replace f_a1 := x_a.fr 1; replace q_b0 := x_b.c0; replace q_b1 := x_b.c1; replace f_b0 := x_b.fr 0; replace f_b1 := x_b.fr 1; replace q_r0 := x_r.c0; replace q_r1 := x_r.c1; replace f_r0 := x_r.fr 0; replace f_r1 := x_r.fr 1) | (go_at_call 54; (with_reducible refine (RAddZ_any h z3.zr k hk hk2 hj).mono ?_); rintro e v3 ⟨A1, n1, c1, rfl, z1, hb1⟩; replace x_a := x_a.keep hb1; replace x_b := x_b.keep hb1; replace x_r := x_r.keep hb1; replace h := h.keep hb1; replace h2 := h2.keep hb1; replace z3 := z3.keep hb1; replace hb := bthen hb hb1; clear hb1; replace q_a0 := x_a.c0; replace q_a1 := x_a.c1; replace f_a0 := x_a.fr 0; replace f_a1 := x_a.fr 1; replace q_b0 := x_b.c0; replace q_b1 := x_b.c1; replace f_b0 := x_b.fr 0; replace f_b1 := x_b.fr 1; replace q_r0 := x_r.c0; replace q_r1 := x_r.c1; replace f_r0 := x_r.fr 0; replace f_r1 := x_r.fr 1))
  go_wp2
  replace x_a := x_a.aside (b' := (ngB (X + -Y))) (A' := A1) (n' := n1) (c' := c1) (g := w.heap.size + 1 + 1) (by omega)
  replace x_b := x_b.aside (b' := (ngB (X + -Y))) (A' := A1) (n' := n1) (c' := c1) (g := w.heap.size + 1 + 1) (by omega)
  replace h := h.put (b' := (ngB (X + -Y))) (A' := A1) (n' := n1) (c' := c1) x_r
  replace h2 := h2.put (b' := (ngB (X + -Y))) (A' := A1) (n' := n1) (c' := c1) x_r
  replace z3 := z3.put (b' := (ngB (X + -Y))) (A' := A1) (n' := n1) (c' := c1) x_r
  replace z1 := z1.put (b' := (ngB (X + -Y))) (A' := A1) (n' := n1) (c' := c1) x_r
  replace hb := put_below (g := w.heap.size + 1 + 1) hb (by omega) (.bool (ngB (X + -Y))) (.slice A1 n1 c1)
  replace x_r := x_r.put (ngB (X + -Y)) A1 n1 c1
  clear q_a0 q_a1 f_a0 f_a1 q_b0 q_b1 f_b0 f_b1 q_r0 q_r1 f_r0 f_r1
  generalize (v3.setCell ⟨w.heap.size + 1 + 1, 0, none⟩ (.bool (ngB (X + -Y)))).setCell ⟨w.heap.size + 1 + 1, 1, none⟩ (.slice A1 n1 c1) = v4 at *
  have q_a0 := x_a.c0; have q_a1 := x_a.c1; have f_a0 := x_a.fr 0; have f_a1 := x_a.fr 1
  have q_b0 := x_b.c0; have q_b1 := x_b.c1; have f_b0 := x_b.fr 0; have f_b1 := x_b.fr 1
  have q_r0 := x_r.c0; have q_r1 := x_r.c1; have f_r0 := x_r.fr 0; have f_r1 := x_r.fr 1
  refine bodyPost_ret (v := .agg #[.bool (ngB (X + -Y)), .slice A1 n1 c1]) (by simp [results, Tryd.results56, go_sem, q_r0, q_r1]) rfl ?_
  exact ⟨_, _, _, rfl, z1, hb⟩

set_option maxRecDepth 100000 in
set_option maxHeartbeats 4000000 in
theorem RMulZ_any {b b2 : Bool} {A A2 : Option Addr} {n c n2 c2 : Nat} {X Y : Int} {j j2 : Nat} {w : World} (h : Zr w b A n c X j) (h2 : Zr w b2 A2 n2 c2 Y j2) (k : Nat) (hk : j + j2 ≤ k) (hj : k ≤ 100000) :
    Calls Tryd.prog 58 #[.agg #[.bool b, .slice A n c], .agg #[.bool b2, .slice A2 n2 c2]] w (OutZ w (X * Y) k) := by
  obtain ⟨l, h, rfl, hn⟩ := h
  obtain ⟨m, h2, rfl, hn2⟩ := h2
  have hs := Sm.of h hn
  have hs2 := Sm.of h2 hn2
  generalize hN : vl Wd l = N at *
  have HN := Lib.hid hN; clear hN
  generalize hM : vl Wd m = M at *
  have HM := Lib.hid hM; clear hM
  rw [zi_mul']
  have hs3 : Sm (N * M) k := (hs.mul hs2).mono hk
  clear hs hs2
  go_enter Tryd.func58, Tryd.ntmps58
  go_wp2_with fail
  obtain ⟨hb, x_a, x_b, x_r⟩ := box3 w b A n c b2 A2 n2 c2 false none 0 0
  generalize ((w.alloc (.cells #[.bool b, .slice A n c] 24)).alloc (.cells #[.bool b2, .slice A2 n2 c2] 24)).alloc (.cells #[.bool false, .slice none 0 0] 24) = v1 at *
  replace h := h.go hb
  replace h2 := h2.go hb
  have q_a0 := x_a.c0; have q_a1 := x_a.c1; have f_a0 := x_a.fr 0; have f_a1 := x_a.fr 1
  have q_b0 := x_b.c0; have q_b1 := x_b.c1; have f_b0 := x_b.fr 0; have f_b1 := x_b.fr 1
  have q_r0 := x_r.c0; have q_r1 := x_r.c1; have f_r0 := x_r.fr 0; have f_r1 := x_r.fr 1
  go_wp2_with fail
  go_region_held3 (fun w' => w'.cell? ⟨w.heap.size, 0, none⟩ = some (.bool b) ∧ w'.cell? ⟨w.heap.size, 1, none⟩ = some (.slice A n c) ∧ w'.cell? ⟨w.heap.size + 1, 0, none⟩ = some (.bool b2) ∧ w'.cell? ⟨w.heap.size + 1, 1, none⟩ = some (.slice A2 n2 c2))
    (first | (with_reducible exact ⟨x_a.c0, x_a.c1, x_b.c0, x_b.c1⟩) | (with_reducible exact ⟨(x_a.aside (by omega)).c0, (x_a.aside (by omega)).c1, (x_b.aside (by omega)).c0, (x_b.aside (by omega)).c1⟩) | (with_reducible exact ⟨((x_a.aside (by omega)).aside (by omega)).c0, ((x_a.aside (by omega)).aside (by omega)).c1, ((x_b.aside (by omega)).aside (by omega)).c0, ((x_b.aside (by omega)).aside (by omega)).c1⟩) | go_keep)
    (first | (go_at_call 87; (with_reducible refine (RMul_any _ _ _ _ _ _ _ _ _ h.drw h2.drw (by omega) (by omega)).mono ?_); rintro e v2 ⟨A1, n1, c1, rfl, g1, hb1⟩; replace hb1 := undrew hb1; replace x_a := x_a.keep hb1; replace x_b := x_b.keep hb1; replace x_r := x_r.keep hb1; replace h := h.go hb1; replace h2 := h2.go hb1; replace hb := bthen hb hb1; clear hb1; replace q_a0 := x_a.c0; replace q_a1 := x_a.c1; replace f_a0 := x_a.fr 0; replace f_a1 := x_a.fr 1; replace q_b0 := x_b.c0; replace q_b1 := x_b.c1; replace f_b0 := x_b.fr 0; replace f_b1 := x_b.fr 1; replace q_r0 := x_r.c0; replace q_r1 := x_r.c1; replace f_r0 := x_r.fr 0; replace f_r1 := x_r.fr 1; rw [HN.out, HM.out] at g1; have zn1 := g1.small hs3) | (go_at_call 82; (with_reducible refine (RMake_any (b := (!(b == b2))) g1 (N * M) k (vl_dg Wd2 _) hs3 (by omega)).mono ?_); rintro e v3 ⟨A2_, n2_, c2_, rfl, z1, hb1⟩; replace x_a := x_a.keep hb1; replace x_b := x_b.keep hb1; replace x_r := x_r.keep hb1; replace h := h.go hb1; replace h2 := h2.go hb1; replace g1 := g1.go hb1; replace hb := bthen hb hb1; clear hb1; replace q_a0 := x_a.c0; replace q_a1 := x_a.c1; replace f_a0 := x_a.fr 0; replace f_a1 := x_a.fr 1; replace q_b0 := x_b.c0; replace q_b1 := x_b.c1; replace f_b0 := x_b.fr 0; replace f_b1 := x_b.fr 1; replace q_r0 := x_r.c0; replace q_r1 := x_r.c1; replace f_r0 := x_r.fr 0; replace f_r1 := x_r.fr 1))
  go_wp2
  replace x_a := x_a.aside (b' := (ngB (zi (!(b == b2)) (N * M)))) (A' := A2_) (n' := n2_) (c' := c2_) (g := w.heap.size + 1 + 1) (by omega)
  replace x_b := x_b.aside (b' := (ngB (zi (!(b == b2)) (N * M)))) (A' := A2_) (n' := n2_) (c' := c2_) (g := w.heap.size + 1 + 1) (by omega)
  replace h := h.sput (b' := (ngB (zi (!(b == b2)) (N * M)))) (A' := A2_) (n' := n2_) (c' := c2_) x_r
  replace h2 := h2.sput (b' := (ngB (zi (!(b == b2)) (N * M)))) (A' := A2_) (n' := n2_) (c' := c2_) x_r
  replace g1 := g1.sput (b' := (ngB (zi (!(b == b2)) (N * M)))) (A' := A2_) (n' := n2_) (c' := c2_) x_r
  replace z1 := z1.put (b' := (ngB (zi (!(b == b2)) (N * M)))) (A' := A2_) (n' := n2_) (c' := c2_) x_r
  replace hb := put_below (g := w.heap.size + 1 + 1) hb (by omega) (.bool (ngB (zi (!(b == b2)) (N * M)))) (.slice A2_ n2_ c2_)
  replace x_r := x_r.put (ngB (zi (!(b == b2)) (N * M))) A2_ n2_ c2_
  clear q_a0 q_a1 f_a0 f_a1 q_b0 q_b1 f_b0 f_b1 q_r0 q_r1 f_r0 f_r1
  generalize (v3.setCell ⟨w.heap.size + 1 + 1, 0, none⟩ (.bool (ngB (zi (!(b == b2)) (N * M))))).setCell ⟨w.heap.size + 1 + 1, 1, none⟩ (.slice A2_ n2_ c2_) = v4 at *
  have q_a0 := x_a.c0; have q_a1 := x_a.c1; have f_a0 := x_a.fr 0; have f_a1 := x_a.fr 1
  have q_b0 := x_b.c0; have q_b1 := x_b.c1; have f_b0 := x_b.fr 0; have f_b1 := x_b.fr 1
  have q_r0 := x_r.c0; have q_r1 := x_r.c1; have f_r0 := x_r.fr 0; have f_r1 := x_r.fr 1
  refine bodyPost_ret (v := .agg #[.bool (ngB (zi (!(b == b2)) (N * M))), .slice A2_ n2_ c2_]) (by simp [results, Tryd.results58, go_sem, q_r0, q_r1]) rfl ?_
  exact ⟨_, _, _, rfl, z1, hb⟩

end Go.Proofs.YtcoidcbbdibnaaaDoor
