/-
 What dyads are worth, as integers: each times 2 ^ 4000. Plain mathematics over the answers of dyad's functions.
-/
import Derived.Test.YtdonaominffpnaaGreatDoorPf
namespace Go.Proofs.YtdonaominffpnaaGreatDoor
variable {A A2 : Option Addr} {X Y e f m s : Int} {b b2 : Bool} {c c2 j j2 n n2 : Nat} {w : World}
set_option maxRecDepth 100000
set_option maxHeartbeats 4000000
set_option linter.unusedVariables false
section
open Go.RowKit
def alE (e f : Int) : Int := min (cE e) (cE f)
def alP (X e f : Int) : Int := cM X e * 2 ^ (cE e - alE e f).toNat
def alQ (Y e f : Int) : Int := cM Y f * 2 ^ (cE f - alE e f).toNat
def AlPost (w : World) (X Y e f : Int) (k : Nat) (en : Ending) (w' : World) : Prop := ∃ A n c A2 n2 c2, en = .returned (.tuple #[.agg #[.bool (ngB (alP X e f)), .slice A n c], .agg #[.bool (ngB (alQ Y e f)), .slice A2 n2 c2], .int .i64 (alE e f)]) ∧ Zn w' A n c (alP X e f) k ∧ Zn w' A2 n2 c2 (alQ Y e f) k ∧ Below w.heap.size w w'
theorem alE_in (e f : Int) : -4000 ≤ alE e f ∧ alE e f ≤ 4000 := by have := cE_in e; have := cE_in f; unfold alE; omega
theorem sc_toNat2 {n : Int} (h0 : 0 ≤ n) (h1 : n ≤ 8192) : sc n = n.toNat := by unfold sc; omega
theorem alP_of (hm : alE e f = m) (hs : s = cE e - m) (h0 : 0 ≤ s) (h1 : s ≤ 8192) : cM X e * 2 ^ sc s = alP X e f := by
 unfold alP; rw [hm, ← hs, sc_toNat2 h0 h1]
theorem alQ_of (hm : alE e f = m) (hs : s = cE f - m) (h0 : 0 ≤ s) (h1 : s ≤ 8192) : cM Y f * 2 ^ sc s = alQ Y e f := by
 unfold alQ; rw [hm, ← hs, sc_toNat2 h0 h1]
theorem align_any (h : Zr w b A n c X j) (h2 : Zr w b2 A2 n2 c2 Y j2) (k : Nat) (hk : j + 128 ≤ k) (hk2 : j2 + 128 ≤ k) (hj : k ≤ 1000000) :
  Calls Tryz.prog 130 #[.agg #[.bool b, .slice A n c, .int .i64 e], .agg #[.bool b2, .slice A2 n2 c2, .int .i64 f]] w (AlPost w X Y e f k) := by
 have hc := cE_in e
 have hc2 := cE_in f
 rcases Int.lt_or_le (cE f) (cE e) with hlt | hle
 ·have hm : alE e f = cE f := by unfold alE; omega
  have hp : cM X e * 2 ^ sc (cE e - cE f) = alP X e f := alP_of hm (by omega) (by omega) (by omega)
  have hq : cM Y f * 2 ^ sc 0 = alQ Y e f := alQ_of hm (by omega) (by omega) (by omega)
  have HM := Lib.hid hm; have HP := Lib.hid hp; have HQ := Lib.hid hq; clear hm hp hq
  go_enter Tryz.func130, Tryz.ntmps130
  go_wp2_with fail
  have x_a : Dx (w.alloc (.cells #[.bool b, .slice A n c, .int .i64 e] 55)) (w.heap.size) b A n c e := by have := Dx.new w b A n c e; simpa using this
  replace x_a := x_a.alloc (.cells #[.bool b2, .slice A2 n2 c2, .int .i64 f] 55)
  have x_b : Dx ((w.alloc (.cells #[.bool b, .slice A n c, .int .i64 e] 55)).alloc (.cells #[.bool b2, .slice A2 n2 c2, .int .i64 f] 55)) (w.heap.size + 1) b2 A2 n2 c2 f := by have := Dx.new (w.alloc (.cells #[.bool b, .slice A n c, .int .i64 e] 55)) b2 A2 n2 c2 f; simpa using this
  replace x_a := x_a.alloc (.cells #[.bool false, .slice none 0 0] 24)
  replace x_b := x_b.alloc (.cells #[.bool false, .slice none 0 0] 24)
  have x_x : Bx (((w.alloc (.cells #[.bool b, .slice A n c, .int .i64 e] 55)).alloc (.cells #[.bool b2, .slice A2 n2 c2, .int .i64 f] 55)).alloc (.cells #[.bool false, .slice none 0 0] 24)) (w.heap.size + 1 + 1) false none 0 0 := by have := Bx.new ((w.alloc (.cells #[.bool b, .slice A n c, .int .i64 e] 55)).alloc (.cells #[.bool b2, .slice A2 n2 c2, .int .i64 f] 55)) false none 0 0; simpa using this
  replace x_a := x_a.alloc (.cells #[.bool false, .slice none 0 0] 24)
  replace x_b := x_b.alloc (.cells #[.bool false, .slice none 0 0] 24)
  replace x_x := x_x.alloc (.cells #[.bool false, .slice none 0 0] 24)
  have x_y : Bx ((((w.alloc (.cells #[.bool b, .slice A n c, .int .i64 e] 55)).alloc (.cells #[.bool b2, .slice A2 n2 c2, .int .i64 f] 55)).alloc (.cells #[.bool false, .slice none 0 0] 24)).alloc (.cells #[.bool false, .slice none 0 0] 24)) (w.heap.size + 1 + 1 + 1) false none 0 0 := by have := Bx.new (((w.alloc (.cells #[.bool b, .slice A n c, .int .i64 e] 55)).alloc (.cells #[.bool b2, .slice A2 n2 c2, .int .i64 f] 55)).alloc (.cells #[.bool false, .slice none 0 0] 24)) false none 0 0; simpa using this
  have hb : Below w.heap.size w ((((w.alloc (.cells #[.bool b, .slice A n c, .int .i64 e] 55)).alloc (.cells #[.bool b2, .slice A2 n2 c2, .int .i64 f] 55)).alloc (.cells #[.bool false, .slice none 0 0] 24)).alloc (.cells #[.bool false, .slice none 0 0] 24)) := (Below.alloc (Below.alloc (Below.alloc (Below.alloc (Below.refl w.heap.size w) (by simp) (.cells #[.bool b, .slice A n c, .int .i64 e] 55)) (by simp) (.cells #[.bool b2, .slice A2 n2 c2, .int .i64 f] 55)) (by simp; omega) (.cells #[.bool false, .slice none 0 0] 24)) (by simp; omega) (.cells #[.bool false, .slice none 0 0] 24))
  generalize (((w.alloc (.cells #[.bool b, .slice A n c, .int .i64 e] 55)).alloc (.cells #[.bool b2, .slice A2 n2 c2, .int .i64 f] 55)).alloc (.cells #[.bool false, .slice none 0 0] 24)).alloc (.cells #[.bool false, .slice none 0 0] 24) = v1 at *
  obtain ⟨h, h2⟩ := mv2 hb h h2
  have q_a := x_a.al
  have q_b := x_b.al
  have q_x := x_x.al
  have q_y := x_y.al
  go_wp2_with fail
  go_region_with ((first | (go_at_call 116; (with_reducible refine (read_any h.drw).mono ?_); rintro e v2 ⟨b1, A1, n1, c1, rfl, zc, hb1⟩; replace hb1 := undrew hb1; obtain ⟨x_a, x_b, x_x, x_y, h, h2⟩ := mv6 hb1 x_a x_b x_x x_y h h2; replace hb := bthen hb hb1; clear hb1; replace q_a := x_a.al; replace q_b := x_b.al; replace q_x := x_x.al; replace q_y := x_y.al) | (go_at_call 116; (with_reducible refine (read_any h2).mono ?_); rintro e v3 ⟨b3, A3, n3, c3, rfl, zd, hb1⟩; obtain ⟨x_a, x_b, x_x, x_y, h, h2, zc⟩ := mv7 hb1 x_a x_b x_x x_y h h2 zc; replace hb := bthen hb hb1; clear hb1; replace q_a := x_a.al; replace q_b := x_b.al; replace q_x := x_x.al; replace q_y := x_y.al)))
  all_goals
   skip
   replace x_b := x_b.asideD (b' := b1) (A' := A1) (n' := n1) (c' := c1) (e' := (cE e)) (g := w.heap.size) (by omega)
   replace x_x := x_x.asideD (b' := b1) (A' := A1) (n' := n1) (c' := c1) (e' := (cE e)) (g := w.heap.size) (by omega)
   replace x_y := x_y.asideD (b' := b1) (A' := A1) (n' := n1) (c' := c1) (e' := (cE e)) (g := w.heap.size) (by omega)
   replace h := h.putD (b' := b1) (A' := A1) (n' := n1) (c' := c1) (e' := (cE e)) x_a
   replace h2 := h2.putD (b' := b1) (A' := A1) (n' := n1) (c' := c1) (e' := (cE e)) x_a
   replace zc := zc.putD (b' := b1) (A' := A1) (n' := n1) (c' := c1) (e' := (cE e)) x_a
   replace zd := zd.putD (b' := b1) (A' := A1) (n' := n1) (c' := c1) (e' := (cE e)) x_a
   replace hb := put_belowD (g := w.heap.size) hb (by omega) (.bool b1) (.slice A1 n1 c1) (.int .i64 (cE e))
   replace x_a := x_a.put b1 A1 n1 c1 (cE e)
   clear q_a q_b q_x q_y
   generalize ((v3.setCell ⟨w.heap.size, 0, none⟩ (.bool b1)).setCell ⟨w.heap.size, 1, none⟩ (.slice A1 n1 c1)).setCell ⟨w.heap.size, 2, none⟩ (.int .i64 (cE e)) = v4 at *
   have q_a := x_a.al
   have q_b := x_b.al
   have q_x := x_x.al
   have q_y := x_y.al
   replace x_a := x_a.asideD (b' := b3) (A' := A3) (n' := n3) (c' := c3) (e' := (cE f)) (g := w.heap.size + 1) (by omega)
   replace x_x := x_x.asideD (b' := b3) (A' := A3) (n' := n3) (c' := c3) (e' := (cE f)) (g := w.heap.size + 1) (by omega)
   replace x_y := x_y.asideD (b' := b3) (A' := A3) (n' := n3) (c' := c3) (e' := (cE f)) (g := w.heap.size + 1) (by omega)
   replace h := h.putD (b' := b3) (A' := A3) (n' := n3) (c' := c3) (e' := (cE f)) x_b
   replace h2 := h2.putD (b' := b3) (A' := A3) (n' := n3) (c' := c3) (e' := (cE f)) x_b
   replace zc := zc.putD (b' := b3) (A' := A3) (n' := n3) (c' := c3) (e' := (cE f)) x_b
   replace zd := zd.putD (b' := b3) (A' := A3) (n' := n3) (c' := c3) (e' := (cE f)) x_b
   replace hb := put_belowD (g := w.heap.size + 1) hb (by omega) (.bool b3) (.slice A3 n3 c3) (.int .i64 (cE f))
   replace x_b := x_b.put b3 A3 n3 c3 (cE f)
   clear q_a q_b q_x q_y
   generalize ((v4.setCell ⟨w.heap.size + 1, 0, none⟩ (.bool b3)).setCell ⟨w.heap.size + 1, 1, none⟩ (.slice A3 n3 c3)).setCell ⟨w.heap.size + 1, 2, none⟩ (.int .i64 (cE f)) = v5 at *
   have q_a := x_a.al
   have q_b := x_b.al
   have q_x := x_x.al
   have q_y := x_y.al
   clear h h2
   have hw0 : IntKind.i64.wrap 0 = 0 := rfl
   have hw1 : IntKind.i64.wrap (cE e - cE f) = (cE e - cE f) := IntWalk.i64_in _ ⟨by omega, by omega⟩
   go_wp2_with fail
   go_region_held3 (fun w' => w'.cell? ⟨w.heap.size, 0, none⟩ = some (.bool b1) ∧ w'.cell? ⟨w.heap.size, 1, none⟩ = some (.slice A1 n1 c1) ∧ w'.cell? ⟨w.heap.size, 2, none⟩ = some (.int .i64 (cE e)) ∧ w'.cell? ⟨w.heap.size + 1, 0, none⟩ = some (.bool b3) ∧ w'.cell? ⟨w.heap.size + 1, 1, none⟩ = some (.slice A3 n3 c3) ∧ w'.cell? ⟨w.heap.size + 1, 2, none⟩ = some (.int .i64 (cE f)))
    (first | (with_reducible exact ⟨x_a.c0, x_a.c1, x_a.c2, x_b.c0, x_b.c1, x_b.c2⟩) | (with_reducible exact ⟨(x_a.aside (by omega)).c0, (x_a.aside (by omega)).c1, (x_a.aside (by omega)).c2, (x_b.aside (by omega)).c0, (x_b.aside (by omega)).c1, (x_b.aside (by omega)).c2⟩) | (with_reducible exact ⟨((x_a.aside (by omega)).aside (by omega)).c0, ((x_a.aside (by omega)).aside (by omega)).c1, ((x_a.aside (by omega)).aside (by omega)).c2, ((x_b.aside (by omega)).aside (by omega)).c0, ((x_b.aside (by omega)).aside (by omega)).c1, ((x_b.aside (by omega)).aside (by omega)).c2⟩) | (with_reducible exact ⟨(x_a.asideD (by omega)).c0, (x_a.asideD (by omega)).c1, (x_a.asideD (by omega)).c2, (x_b.asideD (by omega)).c0, (x_b.asideD (by omega)).c1, (x_b.asideD (by omega)).c2⟩) | (with_reducible exact ⟨((x_a.asideD (by omega)).asideD (by omega)).c0, ((x_a.asideD (by omega)).asideD (by omega)).c1, ((x_a.asideD (by omega)).asideD (by omega)).c2, ((x_b.asideD (by omega)).asideD (by omega)).c0, ((x_b.asideD (by omega)).asideD (by omega)).c1, ((x_b.asideD (by omega)).asideD (by omega)).c2⟩) | go_keep)
    (first | (go_at_call 24; (with_reducible refine (ZShl_any zc.drw (cE e - cE f) k hk hj).mono ?_); rintro e v6 ⟨A5, n5, c5, rfl, z5, hb1⟩; replace hb1 := undrew hb1; obtain ⟨x_a, x_b, x_x, x_y, zc, zd⟩ := mv6 hb1 x_a x_b x_x x_y zc zd; replace hb := bthen hb hb1; clear hb1; replace q_a := x_a.al; replace q_b := x_b.al; replace q_x := x_x.al; replace q_y := x_y.al; rw [HP.out] at z5 ⊢) | (go_at_call 24; (with_reducible refine (ZShl_any zd 0 k hk2 hj).mono ?_); rintro e v7 ⟨A6, n6, c6, rfl, z6, hb1⟩; obtain ⟨x_a, x_b, x_x, x_y, zc, zd, z5⟩ := mv7 hb1 x_a x_b x_x x_y zc zd z5; replace hb := bthen hb hb1; clear hb1; replace q_a := x_a.al; replace q_b := x_b.al; replace q_x := x_x.al; replace q_y := x_y.al; rw [HQ.out] at z6 ⊢))
   go_wp2
   replace x_a := x_a.aside (b' := (ngB (alP X e f))) (A' := A5) (n' := n5) (c' := c5) (g := w.heap.size + 1 + 1) (by omega)
   replace x_b := x_b.aside (b' := (ngB (alP X e f))) (A' := A5) (n' := n5) (c' := c5) (g := w.heap.size + 1 + 1) (by omega)
   replace x_y := x_y.aside (b' := (ngB (alP X e f))) (A' := A5) (n' := n5) (c' := c5) (g := w.heap.size + 1 + 1) (by omega)
   replace zc := zc.put (b' := (ngB (alP X e f))) (A' := A5) (n' := n5) (c' := c5) x_x
   replace zd := zd.put (b' := (ngB (alP X e f))) (A' := A5) (n' := n5) (c' := c5) x_x
   replace z5 := z5.put (b' := (ngB (alP X e f))) (A' := A5) (n' := n5) (c' := c5) x_x
   replace z6 := z6.put (b' := (ngB (alP X e f))) (A' := A5) (n' := n5) (c' := c5) x_x
   replace hb := put_below (g := w.heap.size + 1 + 1) hb (by omega) (.bool (ngB (alP X e f))) (.slice A5 n5 c5)
   replace x_x := x_x.put (ngB (alP X e f)) A5 n5 c5
   clear q_a q_b q_x q_y
   generalize (v7.setCell ⟨w.heap.size + 1 + 1, 0, none⟩ (.bool (ngB (alP X e f)))).setCell ⟨w.heap.size + 1 + 1, 1, none⟩ (.slice A5 n5 c5) = v8 at *
   have q_a := x_a.al
   have q_b := x_b.al
   have q_x := x_x.al
   have q_y := x_y.al
   replace x_a := x_a.aside (b' := (ngB (alQ Y e f))) (A' := A6) (n' := n6) (c' := c6) (g := w.heap.size + 1 + 1 + 1) (by omega)
   replace x_b := x_b.aside (b' := (ngB (alQ Y e f))) (A' := A6) (n' := n6) (c' := c6) (g := w.heap.size + 1 + 1 + 1) (by omega)
   replace x_x := x_x.aside (b' := (ngB (alQ Y e f))) (A' := A6) (n' := n6) (c' := c6) (g := w.heap.size + 1 + 1 + 1) (by omega)
   replace zc := zc.put (b' := (ngB (alQ Y e f))) (A' := A6) (n' := n6) (c' := c6) x_y
   replace zd := zd.put (b' := (ngB (alQ Y e f))) (A' := A6) (n' := n6) (c' := c6) x_y
   replace z5 := z5.put (b' := (ngB (alQ Y e f))) (A' := A6) (n' := n6) (c' := c6) x_y
   replace z6 := z6.put (b' := (ngB (alQ Y e f))) (A' := A6) (n' := n6) (c' := c6) x_y
   replace hb := put_below (g := w.heap.size + 1 + 1 + 1) hb (by omega) (.bool (ngB (alQ Y e f))) (.slice A6 n6 c6)
   replace x_y := x_y.put (ngB (alQ Y e f)) A6 n6 c6
   clear q_a q_b q_x q_y
   generalize (v8.setCell ⟨w.heap.size + 1 + 1 + 1, 0, none⟩ (.bool (ngB (alQ Y e f)))).setCell ⟨w.heap.size + 1 + 1 + 1, 1, none⟩ (.slice A6 n6 c6) = v9 at *
   have q_a := x_a.al
   have q_b := x_b.al
   have q_x := x_x.al
   have q_y := x_y.al
   refine bodyPost_ret (v := .tuple #[.agg #[.bool (ngB (alP X e f)), .slice A5 n5 c5], .agg #[.bool (ngB (alQ Y e f)), .slice A6 n6 c6], .int .i64 (cE f)]) (by simp [results, Tryz.results130, go_sem, q_x, q_y]) rfl ?_
   exact ⟨_, _, _, _, _, _, by rw [HM.out], z5, z6, hb⟩
 ·have hm : alE e f = cE e := by unfold alE; omega
  have hp : cM X e * 2 ^ sc 0 = alP X e f := alP_of hm (by omega) (by omega) (by omega)
  have hq : cM Y f * 2 ^ sc (cE f - cE e) = alQ Y e f := alQ_of hm (by omega) (by omega) (by omega)
  have HM := Lib.hid hm; have HP := Lib.hid hp; have HQ := Lib.hid hq; clear hm hp hq
  go_enter Tryz.func130, Tryz.ntmps130
  go_wp2_with fail
  have x_a : Dx (w.alloc (.cells #[.bool b, .slice A n c, .int .i64 e] 55)) (w.heap.size) b A n c e := by have := Dx.new w b A n c e; simpa using this
  replace x_a := x_a.alloc (.cells #[.bool b2, .slice A2 n2 c2, .int .i64 f] 55)
  have x_b : Dx ((w.alloc (.cells #[.bool b, .slice A n c, .int .i64 e] 55)).alloc (.cells #[.bool b2, .slice A2 n2 c2, .int .i64 f] 55)) (w.heap.size + 1) b2 A2 n2 c2 f := by have := Dx.new (w.alloc (.cells #[.bool b, .slice A n c, .int .i64 e] 55)) b2 A2 n2 c2 f; simpa using this
  replace x_a := x_a.alloc (.cells #[.bool false, .slice none 0 0] 24)
  replace x_b := x_b.alloc (.cells #[.bool false, .slice none 0 0] 24)
  have x_x : Bx (((w.alloc (.cells #[.bool b, .slice A n c, .int .i64 e] 55)).alloc (.cells #[.bool b2, .slice A2 n2 c2, .int .i64 f] 55)).alloc (.cells #[.bool false, .slice none 0 0] 24)) (w.heap.size + 1 + 1) false none 0 0 := by have := Bx.new ((w.alloc (.cells #[.bool b, .slice A n c, .int .i64 e] 55)).alloc (.cells #[.bool b2, .slice A2 n2 c2, .int .i64 f] 55)) false none 0 0; simpa using this
  replace x_a := x_a.alloc (.cells #[.bool false, .slice none 0 0] 24)
  replace x_b := x_b.alloc (.cells #[.bool false, .slice none 0 0] 24)
  replace x_x := x_x.alloc (.cells #[.bool false, .slice none 0 0] 24)
  have x_y : Bx ((((w.alloc (.cells #[.bool b, .slice A n c, .int .i64 e] 55)).alloc (.cells #[.bool b2, .slice A2 n2 c2, .int .i64 f] 55)).alloc (.cells #[.bool false, .slice none 0 0] 24)).alloc (.cells #[.bool false, .slice none 0 0] 24)) (w.heap.size + 1 + 1 + 1) false none 0 0 := by have := Bx.new (((w.alloc (.cells #[.bool b, .slice A n c, .int .i64 e] 55)).alloc (.cells #[.bool b2, .slice A2 n2 c2, .int .i64 f] 55)).alloc (.cells #[.bool false, .slice none 0 0] 24)) false none 0 0; simpa using this
  have hb : Below w.heap.size w ((((w.alloc (.cells #[.bool b, .slice A n c, .int .i64 e] 55)).alloc (.cells #[.bool b2, .slice A2 n2 c2, .int .i64 f] 55)).alloc (.cells #[.bool false, .slice none 0 0] 24)).alloc (.cells #[.bool false, .slice none 0 0] 24)) := (Below.alloc (Below.alloc (Below.alloc (Below.alloc (Below.refl w.heap.size w) (by simp) (.cells #[.bool b, .slice A n c, .int .i64 e] 55)) (by simp) (.cells #[.bool b2, .slice A2 n2 c2, .int .i64 f] 55)) (by simp; omega) (.cells #[.bool false, .slice none 0 0] 24)) (by simp; omega) (.cells #[.bool false, .slice none 0 0] 24))
  generalize (((w.alloc (.cells #[.bool b, .slice A n c, .int .i64 e] 55)).alloc (.cells #[.bool b2, .slice A2 n2 c2, .int .i64 f] 55)).alloc (.cells #[.bool false, .slice none 0 0] 24)).alloc (.cells #[.bool false, .slice none 0 0] 24) = v1 at *
  obtain ⟨h, h2⟩ := mv2 hb h h2
  have q_a := x_a.al
  have q_b := x_b.al
  have q_x := x_x.al
  have q_y := x_y.al
  go_wp2_with fail
  go_region_with ((first | (go_at_call 116; (with_reducible refine (read_any h.drw).mono ?_); rintro e v2 ⟨b1, A1, n1, c1, rfl, zc, hb1⟩; replace hb1 := undrew hb1; obtain ⟨x_a, x_b, x_x, x_y, h, h2⟩ := mv6 hb1 x_a x_b x_x x_y h h2; replace hb := bthen hb hb1; clear hb1; replace q_a := x_a.al; replace q_b := x_b.al; replace q_x := x_x.al; replace q_y := x_y.al) | (go_at_call 116; (with_reducible refine (read_any h2).mono ?_); rintro e v3 ⟨b3, A3, n3, c3, rfl, zd, hb1⟩; obtain ⟨x_a, x_b, x_x, x_y, h, h2, zc⟩ := mv7 hb1 x_a x_b x_x x_y h h2 zc; replace hb := bthen hb hb1; clear hb1; replace q_a := x_a.al; replace q_b := x_b.al; replace q_x := x_x.al; replace q_y := x_y.al)))
  all_goals
   skip
   replace x_b := x_b.asideD (b' := b1) (A' := A1) (n' := n1) (c' := c1) (e' := (cE e)) (g := w.heap.size) (by omega)
   replace x_x := x_x.asideD (b' := b1) (A' := A1) (n' := n1) (c' := c1) (e' := (cE e)) (g := w.heap.size) (by omega)
   replace x_y := x_y.asideD (b' := b1) (A' := A1) (n' := n1) (c' := c1) (e' := (cE e)) (g := w.heap.size) (by omega)
   replace h := h.putD (b' := b1) (A' := A1) (n' := n1) (c' := c1) (e' := (cE e)) x_a
   replace h2 := h2.putD (b' := b1) (A' := A1) (n' := n1) (c' := c1) (e' := (cE e)) x_a
   replace zc := zc.putD (b' := b1) (A' := A1) (n' := n1) (c' := c1) (e' := (cE e)) x_a
   replace zd := zd.putD (b' := b1) (A' := A1) (n' := n1) (c' := c1) (e' := (cE e)) x_a
   replace hb := put_belowD (g := w.heap.size) hb (by omega) (.bool b1) (.slice A1 n1 c1) (.int .i64 (cE e))
   replace x_a := x_a.put b1 A1 n1 c1 (cE e)
   clear q_a q_b q_x q_y
   generalize ((v3.setCell ⟨w.heap.size, 0, none⟩ (.bool b1)).setCell ⟨w.heap.size, 1, none⟩ (.slice A1 n1 c1)).setCell ⟨w.heap.size, 2, none⟩ (.int .i64 (cE e)) = v4 at *
   have q_a := x_a.al
   have q_b := x_b.al
   have q_x := x_x.al
   have q_y := x_y.al
   replace x_a := x_a.asideD (b' := b3) (A' := A3) (n' := n3) (c' := c3) (e' := (cE f)) (g := w.heap.size + 1) (by omega)
   replace x_x := x_x.asideD (b' := b3) (A' := A3) (n' := n3) (c' := c3) (e' := (cE f)) (g := w.heap.size + 1) (by omega)
   replace x_y := x_y.asideD (b' := b3) (A' := A3) (n' := n3) (c' := c3) (e' := (cE f)) (g := w.heap.size + 1) (by omega)
   replace h := h.putD (b' := b3) (A' := A3) (n' := n3) (c' := c3) (e' := (cE f)) x_b
   replace h2 := h2.putD (b' := b3) (A' := A3) (n' := n3) (c' := c3) (e' := (cE f)) x_b
   replace zc := zc.putD (b' := b3) (A' := A3) (n' := n3) (c' := c3) (e' := (cE f)) x_b
   replace zd := zd.putD (b' := b3) (A' := A3) (n' := n3) (c' := c3) (e' := (cE f)) x_b
   replace hb := put_belowD (g := w.heap.size + 1) hb (by omega) (.bool b3) (.slice A3 n3 c3) (.int .i64 (cE f))
   replace x_b := x_b.put b3 A3 n3 c3 (cE f)
   clear q_a q_b q_x q_y
   generalize ((v4.setCell ⟨w.heap.size + 1, 0, none⟩ (.bool b3)).setCell ⟨w.heap.size + 1, 1, none⟩ (.slice A3 n3 c3)).setCell ⟨w.heap.size + 1, 2, none⟩ (.int .i64 (cE f)) = v5 at *
   have q_a := x_a.al
   have q_b := x_b.al
   have q_x := x_x.al
   have q_y := x_y.al
   clear h h2
   have hw0 : IntKind.i64.wrap 0 = 0 := rfl
   have hw1 : IntKind.i64.wrap (cE f - cE e) = (cE f - cE e) := IntWalk.i64_in _ ⟨by omega, by omega⟩
   go_wp2_with fail
   go_region_held3 (fun w' => w'.cell? ⟨w.heap.size, 0, none⟩ = some (.bool b1) ∧ w'.cell? ⟨w.heap.size, 1, none⟩ = some (.slice A1 n1 c1) ∧ w'.cell? ⟨w.heap.size, 2, none⟩ = some (.int .i64 (cE e)) ∧ w'.cell? ⟨w.heap.size + 1, 0, none⟩ = some (.bool b3) ∧ w'.cell? ⟨w.heap.size + 1, 1, none⟩ = some (.slice A3 n3 c3) ∧ w'.cell? ⟨w.heap.size + 1, 2, none⟩ = some (.int .i64 (cE f)))
    (first | (with_reducible exact ⟨x_a.c0, x_a.c1, x_a.c2, x_b.c0, x_b.c1, x_b.c2⟩) | (with_reducible exact ⟨(x_a.aside (by omega)).c0, (x_a.aside (by omega)).c1, (x_a.aside (by omega)).c2, (x_b.aside (by omega)).c0, (x_b.aside (by omega)).c1, (x_b.aside (by omega)).c2⟩) | (with_reducible exact ⟨((x_a.aside (by omega)).aside (by omega)).c0, ((x_a.aside (by omega)).aside (by omega)).c1, ((x_a.aside (by omega)).aside (by omega)).c2, ((x_b.aside (by omega)).aside (by omega)).c0, ((x_b.aside (by omega)).aside (by omega)).c1, ((x_b.aside (by omega)).aside (by omega)).c2⟩) | (with_reducible exact ⟨(x_a.asideD (by omega)).c0, (x_a.asideD (by omega)).c1, (x_a.asideD (by omega)).c2, (x_b.asideD (by omega)).c0, (x_b.asideD (by omega)).c1, (x_b.asideD (by omega)).c2⟩) | (with_reducible exact ⟨((x_a.asideD (by omega)).asideD (by omega)).c0, ((x_a.asideD (by omega)).asideD (by omega)).c1, ((x_a.asideD (by omega)).asideD (by omega)).c2, ((x_b.asideD (by omega)).asideD (by omega)).c0, ((x_b.asideD (by omega)).asideD (by omega)).c1, ((x_b.asideD (by omega)).asideD (by omega)).c2⟩) | go_keep)
    (first | (go_at_call 24; (with_reducible refine (ZShl_any zc.drw 0 k hk hj).mono ?_); rintro e v6 ⟨A5, n5, c5, rfl, z5, hb1⟩; replace hb1 := undrew hb1; obtain ⟨x_a, x_b, x_x, x_y, zc, zd⟩ := mv6 hb1 x_a x_b x_x x_y zc zd; replace hb := bthen hb hb1; clear hb1; replace q_a := x_a.al; replace q_b := x_b.al; replace q_x := x_x.al; replace q_y := x_y.al; rw [HP.out] at z5 ⊢) | (go_at_call 24; (with_reducible refine (ZShl_any zd (cE f - cE e) k hk2 hj).mono ?_); rintro e v7 ⟨A6, n6, c6, rfl, z6, hb1⟩; obtain ⟨x_a, x_b, x_x, x_y, zc, zd, z5⟩ := mv7 hb1 x_a x_b x_x x_y zc zd z5; replace hb := bthen hb hb1; clear hb1; replace q_a := x_a.al; replace q_b := x_b.al; replace q_x := x_x.al; replace q_y := x_y.al; rw [HQ.out] at z6 ⊢))
   go_wp2
   replace x_a := x_a.aside (b' := (ngB (alP X e f))) (A' := A5) (n' := n5) (c' := c5) (g := w.heap.size + 1 + 1) (by omega)
   replace x_b := x_b.aside (b' := (ngB (alP X e f))) (A' := A5) (n' := n5) (c' := c5) (g := w.heap.size + 1 + 1) (by omega)
   replace x_y := x_y.aside (b' := (ngB (alP X e f))) (A' := A5) (n' := n5) (c' := c5) (g := w.heap.size + 1 + 1) (by omega)
   replace zc := zc.put (b' := (ngB (alP X e f))) (A' := A5) (n' := n5) (c' := c5) x_x
   replace zd := zd.put (b' := (ngB (alP X e f))) (A' := A5) (n' := n5) (c' := c5) x_x
   replace z5 := z5.put (b' := (ngB (alP X e f))) (A' := A5) (n' := n5) (c' := c5) x_x
   replace z6 := z6.put (b' := (ngB (alP X e f))) (A' := A5) (n' := n5) (c' := c5) x_x
   replace hb := put_below (g := w.heap.size + 1 + 1) hb (by omega) (.bool (ngB (alP X e f))) (.slice A5 n5 c5)
   replace x_x := x_x.put (ngB (alP X e f)) A5 n5 c5
   clear q_a q_b q_x q_y
   generalize (v7.setCell ⟨w.heap.size + 1 + 1, 0, none⟩ (.bool (ngB (alP X e f)))).setCell ⟨w.heap.size + 1 + 1, 1, none⟩ (.slice A5 n5 c5) = v8 at *
   have q_a := x_a.al
   have q_b := x_b.al
   have q_x := x_x.al
   have q_y := x_y.al
   replace x_a := x_a.aside (b' := (ngB (alQ Y e f))) (A' := A6) (n' := n6) (c' := c6) (g := w.heap.size + 1 + 1 + 1) (by omega)
   replace x_b := x_b.aside (b' := (ngB (alQ Y e f))) (A' := A6) (n' := n6) (c' := c6) (g := w.heap.size + 1 + 1 + 1) (by omega)
   replace x_x := x_x.aside (b' := (ngB (alQ Y e f))) (A' := A6) (n' := n6) (c' := c6) (g := w.heap.size + 1 + 1 + 1) (by omega)
   replace zc := zc.put (b' := (ngB (alQ Y e f))) (A' := A6) (n' := n6) (c' := c6) x_y
   replace zd := zd.put (b' := (ngB (alQ Y e f))) (A' := A6) (n' := n6) (c' := c6) x_y
   replace z5 := z5.put (b' := (ngB (alQ Y e f))) (A' := A6) (n' := n6) (c' := c6) x_y
   replace z6 := z6.put (b' := (ngB (alQ Y e f))) (A' := A6) (n' := n6) (c' := c6) x_y
   replace hb := put_below (g := w.heap.size + 1 + 1 + 1) hb (by omega) (.bool (ngB (alQ Y e f))) (.slice A6 n6 c6)
   replace x_y := x_y.put (ngB (alQ Y e f)) A6 n6 c6
   clear q_a q_b q_x q_y
   generalize (v8.setCell ⟨w.heap.size + 1 + 1 + 1, 0, none⟩ (.bool (ngB (alQ Y e f)))).setCell ⟨w.heap.size + 1 + 1 + 1, 1, none⟩ (.slice A6 n6 c6) = v9 at *
   have q_a := x_a.al
   have q_b := x_b.al
   have q_x := x_x.al
   have q_y := x_y.al
   refine bodyPost_ret (v := .tuple #[.agg #[.bool (ngB (alP X e f)), .slice A5 n5 c5], .agg #[.bool (ngB (alQ Y e f)), .slice A6 n6 c6], .int .i64 (cE e)]) (by simp [results, Tryz.results130, go_sem, q_x, q_y]) rfl ?_
   exact ⟨_, _, _, _, _, _, by rw [HM.out], z5, z6, hb⟩
end
section
open Go.RowKit
theorem DCmp_any (h : Zr w b A n c X j) (h2 : Zr w b2 A2 n2 c2 Y j2) (hj : j ≤ 100000) (hj2 : j2 ≤ 100000) :
  Calls Tryz.prog 81 #[.agg #[.bool b, .slice A n c, .int .i64 e], .agg #[.bool b2, .slice A2 n2 c2, .int .i64 f]] w fun en w' => en = .returned (.int .i64 (sgnI (alP X e f - alQ Y e f))) ∧ Below w.heap.size w w' := by
 have hm := alE_in e f
 go_enter Tryz.func81, Tryz.ntmps81
 go_wp2_with fail
 have x_a : Dx (w.alloc (.cells #[.bool b, .slice A n c, .int .i64 e] 55)) (w.heap.size) b A n c e := by have := Dx.new w b A n c e; simpa using this
 replace x_a := x_a.alloc (.cells #[.bool b2, .slice A2 n2 c2, .int .i64 f] 55)
 have x_b : Dx ((w.alloc (.cells #[.bool b, .slice A n c, .int .i64 e] 55)).alloc (.cells #[.bool b2, .slice A2 n2 c2, .int .i64 f] 55)) (w.heap.size + 1) b2 A2 n2 c2 f := by have := Dx.new (w.alloc (.cells #[.bool b, .slice A n c, .int .i64 e] 55)) b2 A2 n2 c2 f; simpa using this
 have hb : Below w.heap.size w ((w.alloc (.cells #[.bool b, .slice A n c, .int .i64 e] 55)).alloc (.cells #[.bool b2, .slice A2 n2 c2, .int .i64 f] 55)) := (Below.alloc (Below.alloc (Below.refl w.heap.size w) (by simp) (.cells #[.bool b, .slice A n c, .int .i64 e] 55)) (by simp) (.cells #[.bool b2, .slice A2 n2 c2, .int .i64 f] 55))
 generalize (w.alloc (.cells #[.bool b, .slice A n c, .int .i64 e] 55)).alloc (.cells #[.bool b2, .slice A2 n2 c2, .int .i64 f] 55) = v1 at *
 obtain ⟨h, h2⟩ := mv2 hb h h2
 have q_a := x_a.al
 have q_b := x_b.al
 go_wp2_with fail
 with_reducible refine (align_any h h2 200000 (by omega) (by omega) (by omega)).mono ?_
 rintro e v2 ⟨A5, n5, c5, A6, n6, c6, rfl, z5, z6, hb1⟩
 obtain ⟨x_a, x_b, h, h2⟩ := mv4 hb1 x_a x_b h h2
 replace hb := bthen hb hb1
 clear hb1
 replace q_a := x_a.al
 replace q_b := x_b.al
 clear h h2
 have y_a := ((x_a.alloc (.cells #[.bool (ngB (alP X e f)), .slice A5 n5 c5] 24)).alloc (.cells #[.bool (ngB (alQ Y e f)), .slice A6 n6 c6] 24)); have yq_a0 := y_a.c0; have yq_a1 := y_a.c1; have yq_a2 := y_a.c2
 have y_b := ((x_b.alloc (.cells #[.bool (ngB (alP X e f)), .slice A5 n5 c5] 24)).alloc (.cells #[.bool (ngB (alQ Y e f)), .slice A6 n6 c6] 24)); have yq_b0 := y_b.c0; have yq_b1 := y_b.c1; have yq_b2 := y_b.c2
 go_wp2_with fail
 clear y_a yq_a0 yq_a1 yq_a2 y_b yq_b0 yq_b1 yq_b2
 have l_a_x := x_a.lt
 have l_b_x := x_b.lt
 have e_x : w.heap.size ≤ v2.heap.size := hb.size
 have hb1 := below_alloc2 v2 (.cells #[.bool (ngB (alP X e f)), .slice A5 n5 c5] 24) (.cells #[.bool (ngB (alQ Y e f)), .slice A6 n6 c6] 24)
 have x_x := (Bx.new v2 (ngB (alP X e f)) A5 n5 c5).alloc (.cells #[.bool (ngB (alQ Y e f)), .slice A6 n6 c6] 24)
 have x_y : Bx ((v2.alloc (.cells #[.bool (ngB (alP X e f)), .slice A5 n5 c5] 24)).alloc (.cells #[.bool (ngB (alQ Y e f)), .slice A6 n6 c6] 24)) (v2.heap.size + 1) (ngB (alQ Y e f)) A6 n6 c6 := by have := Bx.new (v2.alloc (.cells #[.bool (ngB (alP X e f)), .slice A5 n5 c5] 24)) (ngB (alQ Y e f)) A6 n6 c6; simpa using this
 obtain ⟨x_a, x_b, z5, z6⟩ := mv4 hb1 x_a x_b z5 z6
 replace hb := bthen hb hb1
 clear hb1
 replace q_a := x_a.al
 replace q_b := x_b.al
 clear q_a q_b
 generalize (v2.alloc (.cells #[.bool (ngB (alP X e f)), .slice A5 n5 c5] 24)).alloc (.cells #[.bool (ngB (alQ Y e f)), .slice A6 n6 c6] 24) = v3 at *
 have q_a := x_a.al
 have q_b := x_b.al
 have q_x := x_x.al
 have q_y := x_y.al
 skip
 with_reducible refine (ZCmp_any z5.zr z6.zr (by omega) (by omega)).mono ?_
 rintro e v4 ⟨rfl, hb1⟩
 obtain ⟨x_a, x_b, x_x, x_y, z5, z6⟩ := mv6 hb1 x_a x_b x_x x_y z5 z6
 replace hb := bthen hb hb1
 clear hb1
 replace q_a := x_a.al
 replace q_b := x_b.al
 replace q_x := x_x.al
 replace q_y := x_y.al
 go_wp2
 go_ret
 exact ⟨rfl, hb⟩
theorem DSub_any (h : Zr w b A n c X j) (h2 : Zr w b2 A2 n2 c2 Y j2) (hT : Tab w) (k : Nat) (hk : j + 129 ≤ k) (hk2 : j2 + 129 ≤ k) (hj : k ≤ 100000) :
  Calls Tryz.prog 246 #[.agg #[.bool b, .slice A n c, .int .i64 e], .agg #[.bool b2, .slice A2 n2 c2, .int .i64 f]] w (OutD w (od (alP X e f - alQ Y e f)) (nE (alP X e f - alQ Y e f) (alE e f)) (k + 1)) := by
 have hm := alE_in e f
 go_enter Tryz.func246, Tryz.ntmps246
 go_wp2_with fail
 have x_a : Dx (w.alloc (.cells #[.bool b, .slice A n c, .int .i64 e] 55)) (w.heap.size) b A n c e := by have := Dx.new w b A n c e; simpa using this
 replace x_a := x_a.alloc (.cells #[.bool b2, .slice A2 n2 c2, .int .i64 f] 55)
 have x_b : Dx ((w.alloc (.cells #[.bool b, .slice A n c, .int .i64 e] 55)).alloc (.cells #[.bool b2, .slice A2 n2 c2, .int .i64 f] 55)) (w.heap.size + 1) b2 A2 n2 c2 f := by have := Dx.new (w.alloc (.cells #[.bool b, .slice A n c, .int .i64 e] 55)) b2 A2 n2 c2 f; simpa using this
 replace x_a := x_a.alloc (.cells #[.bool false, .slice none 0 0, .int .i64 0] 55)
 replace x_b := x_b.alloc (.cells #[.bool false, .slice none 0 0, .int .i64 0] 55)
 have x_r : Dx (((w.alloc (.cells #[.bool b, .slice A n c, .int .i64 e] 55)).alloc (.cells #[.bool b2, .slice A2 n2 c2, .int .i64 f] 55)).alloc (.cells #[.bool false, .slice none 0 0, .int .i64 0] 55)) (w.heap.size + 1 + 1) false none 0 0 0 := by have := Dx.new ((w.alloc (.cells #[.bool b, .slice A n c, .int .i64 e] 55)).alloc (.cells #[.bool b2, .slice A2 n2 c2, .int .i64 f] 55)) false none 0 0 0; simpa using this
 have hb : Below w.heap.size w (((w.alloc (.cells #[.bool b, .slice A n c, .int .i64 e] 55)).alloc (.cells #[.bool b2, .slice A2 n2 c2, .int .i64 f] 55)).alloc (.cells #[.bool false, .slice none 0 0, .int .i64 0] 55)) := (Below.alloc (Below.alloc (Below.alloc (Below.refl w.heap.size w) (by simp) (.cells #[.bool b, .slice A n c, .int .i64 e] 55)) (by simp) (.cells #[.bool b2, .slice A2 n2 c2, .int .i64 f] 55)) (by simp; omega) (.cells #[.bool false, .slice none 0 0, .int .i64 0] 55))
 generalize ((w.alloc (.cells #[.bool b, .slice A n c, .int .i64 e] 55)).alloc (.cells #[.bool b2, .slice A2 n2 c2, .int .i64 f] 55)).alloc (.cells #[.bool false, .slice none 0 0, .int .i64 0] 55) = v1 at *
 obtain ⟨h, h2, hT⟩ := mv3 hb h h2 hT
 have q_a := x_a.al
 have q_b := x_b.al
 have q_r := x_r.al
 go_wp2_with fail
 with_reducible refine (align_any h h2 (k - 1) (by omega) (by omega) (by omega)).mono ?_
 rintro e v2 ⟨A5, n5, c5, A6, n6, c6, rfl, z5, z6, hb1⟩
 obtain ⟨x_a, x_b, x_r, h, h2, hT⟩ := mv6 hb1 x_a x_b x_r h h2 hT
 replace hb := bthen hb hb1
 clear hb1
 replace q_a := x_a.al
 replace q_b := x_b.al
 replace q_r := x_r.al
 clear h h2
 have y_a := ((x_a.alloc (.cells #[.bool (ngB (alP X e f)), .slice A5 n5 c5] 24)).alloc (.cells #[.bool (ngB (alQ Y e f)), .slice A6 n6 c6] 24)); have yq_a0 := y_a.c0; have yq_a1 := y_a.c1; have yq_a2 := y_a.c2
 have y_b := ((x_b.alloc (.cells #[.bool (ngB (alP X e f)), .slice A5 n5 c5] 24)).alloc (.cells #[.bool (ngB (alQ Y e f)), .slice A6 n6 c6] 24)); have yq_b0 := y_b.c0; have yq_b1 := y_b.c1; have yq_b2 := y_b.c2
 have y_r := ((x_r.alloc (.cells #[.bool (ngB (alP X e f)), .slice A5 n5 c5] 24)).alloc (.cells #[.bool (ngB (alQ Y e f)), .slice A6 n6 c6] 24)); have yq_r0 := y_r.c0; have yq_r1 := y_r.c1; have yq_r2 := y_r.c2
 go_wp2_with fail
 clear y_a yq_a0 yq_a1 yq_a2 y_b yq_b0 yq_b1 yq_b2 y_r yq_r0 yq_r1 yq_r2
 have l_a_x := x_a.lt
 have l_b_x := x_b.lt
 have l_r_x := x_r.lt
 have e_x : w.heap.size ≤ v2.heap.size := hb.size
 have hb1 := below_alloc2 v2 (.cells #[.bool (ngB (alP X e f)), .slice A5 n5 c5] 24) (.cells #[.bool (ngB (alQ Y e f)), .slice A6 n6 c6] 24)
 have x_x := (Bx.new v2 (ngB (alP X e f)) A5 n5 c5).alloc (.cells #[.bool (ngB (alQ Y e f)), .slice A6 n6 c6] 24)
 have x_y : Bx ((v2.alloc (.cells #[.bool (ngB (alP X e f)), .slice A5 n5 c5] 24)).alloc (.cells #[.bool (ngB (alQ Y e f)), .slice A6 n6 c6] 24)) (v2.heap.size + 1) (ngB (alQ Y e f)) A6 n6 c6 := by have := Bx.new (v2.alloc (.cells #[.bool (ngB (alP X e f)), .slice A5 n5 c5] 24)) (ngB (alQ Y e f)) A6 n6 c6; simpa using this
 obtain ⟨x_a, x_b, x_r, hT, z5, z6⟩ := mv6 hb1 x_a x_b x_r hT z5 z6
 replace hb := bthen hb hb1
 clear hb1
 replace q_a := x_a.al
 replace q_b := x_b.al
 replace q_r := x_r.al
 clear q_a q_b q_r
 generalize (v2.alloc (.cells #[.bool (ngB (alP X e f)), .slice A5 n5 c5] 24)).alloc (.cells #[.bool (ngB (alQ Y e f)), .slice A6 n6 c6] 24) = v3 at *
 have q_a := x_a.al
 have q_b := x_b.al
 have q_r := x_r.al
 have q_x := x_x.al
 have q_y := x_y.al
 skip
 with_reducible refine (ZSub_any z5.zr z6.zr k (by omega) (by omega) (by omega)).mono ?_
 rintro e v4 ⟨A7, n7, c7, rfl, z7, hb1⟩
 obtain ⟨x_a, x_b, x_r, x_x, x_y, hT, z5, z6⟩ := mv8 hb1 x_a x_b x_r x_x x_y hT z5 z6
 replace hb := bthen hb hb1
 clear hb1
 replace q_a := x_a.al
 replace q_b := x_b.al
 replace q_r := x_r.al
 replace q_x := x_x.al
 replace q_y := x_y.al
 go_wp2_with fail
 with_reducible refine (result_any z7.zr hT (alE e f) (by omega) (k + 1) (by omega) (by omega)).mono ?_
 rintro e v5 ⟨A8, n8, c8, rfl, z8, hb1⟩
 obtain ⟨x_a, x_b, x_r, x_x, x_y, hT, z5, z6, z7⟩ := mv9 hb1 x_a x_b x_r x_x x_y hT z5 z6 z7
 replace hb := bthen hb hb1
 clear hb1
 replace q_a := x_a.al
 replace q_b := x_b.al
 replace q_r := x_r.al
 replace q_x := x_x.al
 replace q_y := x_y.al
 go_wp2
 replace x_a := x_a.asideD (b' := (ngB (od (alP X e f - alQ Y e f)))) (A' := A8) (n' := n8) (c' := c8) (e' := (nE (alP X e f - alQ Y e f) (alE e f))) (g := w.heap.size + 1 + 1) (by omega)
 replace x_b := x_b.asideD (b' := (ngB (od (alP X e f - alQ Y e f)))) (A' := A8) (n' := n8) (c' := c8) (e' := (nE (alP X e f - alQ Y e f) (alE e f))) (g := w.heap.size + 1 + 1) (by omega)
 replace x_x := x_x.asideD (b' := (ngB (od (alP X e f - alQ Y e f)))) (A' := A8) (n' := n8) (c' := c8) (e' := (nE (alP X e f - alQ Y e f) (alE e f))) (g := w.heap.size + 1 + 1) (by omega)
 replace x_y := x_y.asideD (b' := (ngB (od (alP X e f - alQ Y e f)))) (A' := A8) (n' := n8) (c' := c8) (e' := (nE (alP X e f - alQ Y e f) (alE e f))) (g := w.heap.size + 1 + 1) (by omega)
 replace hT := hT.putD (b' := (ngB (od (alP X e f - alQ Y e f)))) (A' := A8) (n' := n8) (c' := c8) (e' := (nE (alP X e f - alQ Y e f) (alE e f))) x_r
 replace z5 := z5.putD (b' := (ngB (od (alP X e f - alQ Y e f)))) (A' := A8) (n' := n8) (c' := c8) (e' := (nE (alP X e f - alQ Y e f) (alE e f))) x_r
 replace z6 := z6.putD (b' := (ngB (od (alP X e f - alQ Y e f)))) (A' := A8) (n' := n8) (c' := c8) (e' := (nE (alP X e f - alQ Y e f) (alE e f))) x_r
 replace z7 := z7.putD (b' := (ngB (od (alP X e f - alQ Y e f)))) (A' := A8) (n' := n8) (c' := c8) (e' := (nE (alP X e f - alQ Y e f) (alE e f))) x_r
 replace z8 := z8.putD (b' := (ngB (od (alP X e f - alQ Y e f)))) (A' := A8) (n' := n8) (c' := c8) (e' := (nE (alP X e f - alQ Y e f) (alE e f))) x_r
 replace hb := put_belowD (g := w.heap.size + 1 + 1) hb (by omega) (.bool (ngB (od (alP X e f - alQ Y e f)))) (.slice A8 n8 c8) (.int .i64 (nE (alP X e f - alQ Y e f) (alE e f)))
 replace x_r := x_r.put (ngB (od (alP X e f - alQ Y e f))) A8 n8 c8 (nE (alP X e f - alQ Y e f) (alE e f))
 clear q_a q_b q_r q_x q_y
 generalize ((v5.setCell ⟨w.heap.size + 1 + 1, 0, none⟩ (.bool (ngB (od (alP X e f - alQ Y e f))))).setCell ⟨w.heap.size + 1 + 1, 1, none⟩ (.slice A8 n8 c8)).setCell ⟨w.heap.size + 1 + 1, 2, none⟩ (.int .i64 (nE (alP X e f - alQ Y e f) (alE e f))) = v6 at *
 have q_a := x_a.al
 have q_b := x_b.al
 have q_r := x_r.al
 have q_x := x_x.al
 have q_y := x_y.al
 refine bodyPost_ret (v := .agg #[.bool (ngB (od (alP X e f - alQ Y e f))), .slice A8 n8 c8, .int .i64 (nE (alP X e f - alQ Y e f) (alE e f))]) (by simp [results, Tryz.results246, go_sem, q_r]) rfl ?_
 exact ⟨_, _, _, rfl, z8, hb⟩
end
def vd (X e : Int) : Int := X * 2 ^ (e + 4000).toNat
theorem ipow_add (a b : Nat) : (2 : Int) ^ a * 2 ^ b = 2 ^ (a + b) := (Int.pow_add 2 a b).symm
theorem sgnI_mulpow (Z : Int) (k : Nat) : sgnI (Z * 2 ^ k) = sgnI Z := by
 have hp := two_pow_pos k
 rcases Int.lt_trichotomy Z 0 with h | h | h
 ·have : Z * 2 ^ k < 0 := Int.mul_neg_of_neg_of_pos h hp
  unfold sgnI; rw [if_pos h, if_pos this]
 ·subst h; rw [Int.zero_mul]
 ·have : 0 < Z * 2 ^ k := Int.mul_pos h hp
  unfold sgnI; rw [if_neg (by omega), if_neg (by omega), if_neg (by omega), if_neg (by omega)]
theorem vd_low (h : m ≤ e) (hm : -4000 ≤ m) : vd (X * 2 ^ (e - m).toNat) m = vd X e := by
 unfold vd
 rw [Int.mul_assoc, ipow_add]
 congr 2
 omega
theorem vd_sub (X Y e : Int) : vd (X - Y) e = vd X e - vd Y e := by unfold vd; rw [Int.sub_mul]
theorem vd_sgn (X e : Int) : sgnI (vd X e) = sgnI X := sgnI_mulpow _ _
def In (e : Int) : Prop := -4000 ≤ e ∧ e ≤ 4000
theorem al_in (he : In e) (hf : In f) : alE e f = min e f := by unfold alE; rw [(c_yes (X := 0) he).2, (c_yes (X := 0) hf).2]
theorem alP_vd (he : In e) (hf : In f) : vd (alP X e f) (alE e f) = vd X e := by
 unfold alP
 rw [al_in he hf, (c_yes (X := X) he).1, (c_yes (X := X) he).2]
 unfold In at he hf
 exact vd_low (by omega) (by omega)
theorem alQ_vd (he : In e) (hf : In f) : vd (alQ Y e f) (alE e f) = vd Y f := by
 unfold alQ
 rw [al_in he hf, (c_yes (X := Y) hf).1, (c_yes (X := Y) hf).2]
 unfold In at he hf
 exact vd_low (by omega) (by omega)
theorem cmp_vd (he : In e) (hf : In f) : sgnI (alP X e f - alQ Y e f) = sgnI (vd X e - vd Y f) := by
 rw [← alP_vd (X := X) he hf, ← alQ_vd (Y := Y) he hf, ← vd_sub, vd_sgn]
theorem sgn_od (X : Int) : sgnI (od X) = sgnI X := by
 by_cases h : X = 0
 ·subst h; rw [od_zero]
 ·conv => rhs; rw [(tz_spec h).1]
  rw [sgnI_mulpow]
def Bt (X : Int) (k : Nat) : Prop := X.natAbs < 2 ^ k
theorem Bt.of_si (h : Si X j) : Bt X (64 * j) := by
 unfold Bt; unfold Si Sm at h; rw [Nat.pow_mul]; exact h
end Go.Proofs.YtdonaominffpnaaGreatDoor
