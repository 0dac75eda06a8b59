/-
  dyad: align.
-/
import Derived.Test.YtcoidcbbdibnaaaDoorDres
namespace Go.Proofs.YtcoidcbbdibnaaaDoor
open Go.RowKit
set_option linter.unusedVariables false

/-- Two dyads brought to one exponent. -/
def alE (e f : Int) : Int := min (cE e) (cE f)
def alP (X e f : Int) : Int := cM X e * 2 ^ (cE e - alE e f).toNat
def alQ (Y e f : Int) : Int := cM Y f * 2 ^ (cE f - alE e f).toNat
def AlPost (w : World) (X Y e f : Int) (k : Nat) (en : Ending) (w' : World) : Prop := ∃ A n c A2 n2 c2, en = .returned (.tuple #[.agg #[.bool (ngB (alP X e f)), .slice A n c], .agg #[.bool (ngB (alQ Y e f)), .slice A2 n2 c2], .int .i64 (alE e f)]) ∧ Zn w' A n c (alP X e f) k ∧ Zn w' A2 n2 c2 (alQ Y e f) k ∧ Below w.heap.size w w'
theorem alE_in (e f : Int) : -4000 ≤ alE e f ∧ alE e f ≤ 4000 := by have := cE_in e; have := cE_in f; unfold alE; omega
theorem sc_toNat2 {n : Int} (h0 : 0 ≤ n) (h1 : n ≤ 8192) : sc n = n.toNat := by unfold sc; omega
theorem alP_of {X e f m s : Int} (hm : alE e f = m) (hs : s = cE e - m) (h0 : 0 ≤ s) (h1 : s ≤ 8192) : cM X e * 2 ^ sc s = alP X e f := by
  unfold alP; rw [hm, ← hs, sc_toNat2 h0 h1]
theorem alQ_of {Y e f m s : Int} (hm : alE e f = m) (hs : s = cE f - m) (h0 : 0 ≤ s) (h1 : s ≤ 8192) : cM Y f * 2 ^ sc s = alQ Y e f := by
  unfold alQ; rw [hm, ← hs, sc_toNat2 h0 h1]

set_option maxRecDepth 100000 in
set_option maxHeartbeats 4000000 in
theorem align_any {b b2 : Bool} {A A2 : Option Addr} {n c n2 c2 : Nat} {X Y e f : Int} {j j2 : Nat} {w : World} (h : Zr w b A n c X j) (h2 : Zr w b2 A2 n2 c2 Y j2) (k : Nat) (hk : j + 128 ≤ k) (hk2 : j2 + 128 ≤ k) (hj : k ≤ 1000000) :
    Calls Tryd.prog 51 #[.agg #[.bool b, .slice A n c, .int .i64 e], .agg #[.bool b2, .slice A2 n2 c2, .int .i64 f]] w (AlPost w X Y e f k) := by
  have hc := cE_in e
  have hc2 := cE_in f
  rcases Int.lt_or_le (cE f) (cE e) with hlt | hle
  · have hm : alE e f = cE f := by unfold alE; omega
    have hp : cM X e * 2 ^ sc (cE e - cE f) = alP X e f := alP_of hm (by omega) (by omega) (by omega)
    have hq : cM Y f * 2 ^ sc 0 = alQ Y e f := alQ_of hm (by omega) (by omega) (by omega)
    have HM := Lib.hid hm; have HP := Lib.hid hp; have HQ := Lib.hid hq; clear hm hp hq
    go_enter Tryd.func51, Tryd.ntmps51
    go_wp2_with fail
    have x_a : Dx (w.alloc (.cells #[.bool b, .slice A n c, .int .i64 e] 26)) (w.heap.size) b A n c e := by have := Dx.new w b A n c e; simpa using this
    replace x_a := x_a.alloc (.cells #[.bool b2, .slice A2 n2 c2, .int .i64 f] 26)
    have x_b : Dx ((w.alloc (.cells #[.bool b, .slice A n c, .int .i64 e] 26)).alloc (.cells #[.bool b2, .slice A2 n2 c2, .int .i64 f] 26)) (w.heap.size + 1) b2 A2 n2 c2 f := by have := Dx.new (w.alloc (.cells #[.bool b, .slice A n c, .int .i64 e] 26)) b2 A2 n2 c2 f; simpa using this
    replace x_a := x_a.alloc (.cells #[.bool false, .slice none 0 0] 24)
    replace x_b := x_b.alloc (.cells #[.bool false, .slice none 0 0] 24)
    have x_x : Bx (((w.alloc (.cells #[.bool b, .slice A n c, .int .i64 e] 26)).alloc (.cells #[.bool b2, .slice A2 n2 c2, .int .i64 f] 26)).alloc (.cells #[.bool false, .slice none 0 0] 24)) (w.heap.size + 1 + 1) false none 0 0 := by have := Bx.new ((w.alloc (.cells #[.bool b, .slice A n c, .int .i64 e] 26)).alloc (.cells #[.bool b2, .slice A2 n2 c2, .int .i64 f] 26)) false none 0 0; simpa using this
    replace x_a := x_a.alloc (.cells #[.bool false, .slice none 0 0] 24)
    replace x_b := x_b.alloc (.cells #[.bool false, .slice none 0 0] 24)
    replace x_x := x_x.alloc (.cells #[.bool false, .slice none 0 0] 24)
    have x_y : Bx ((((w.alloc (.cells #[.bool b, .slice A n c, .int .i64 e] 26)).alloc (.cells #[.bool b2, .slice A2 n2 c2, .int .i64 f] 26)).alloc (.cells #[.bool false, .slice none 0 0] 24)).alloc (.cells #[.bool false, .slice none 0 0] 24)) (w.heap.size + 1 + 1 + 1) false none 0 0 := by have := Bx.new (((w.alloc (.cells #[.bool b, .slice A n c, .int .i64 e] 26)).alloc (.cells #[.bool b2, .slice A2 n2 c2, .int .i64 f] 26)).alloc (.cells #[.bool false, .slice none 0 0] 24)) false none 0 0; simpa using this
    have hb : Below w.heap.size w ((((w.alloc (.cells #[.bool b, .slice A n c, .int .i64 e] 26)).alloc (.cells #[.bool b2, .slice A2 n2 c2, .int .i64 f] 26)).alloc (.cells #[.bool false, .slice none 0 0] 24)).alloc (.cells #[.bool false, .slice none 0 0] 24)) := (Below.alloc (Below.alloc (Below.alloc (Below.alloc (Below.refl w.heap.size w) (by simp) (.cells #[.bool b, .slice A n c, .int .i64 e] 26)) (by simp) (.cells #[.bool b2, .slice A2 n2 c2, .int .i64 f] 26)) (by simp; omega) (.cells #[.bool false, .slice none 0 0] 24)) (by simp; omega) (.cells #[.bool false, .slice none 0 0] 24))
    generalize (((w.alloc (.cells #[.bool b, .slice A n c, .int .i64 e] 26)).alloc (.cells #[.bool b2, .slice A2 n2 c2, .int .i64 f] 26)).alloc (.cells #[.bool false, .slice none 0 0] 24)).alloc (.cells #[.bool false, .slice none 0 0] 24) = v1 at *
    replace h := h.keep hb
    replace h2 := h2.keep hb
    have q_a0 := x_a.c0; have q_a1 := x_a.c1; have f_a0 := x_a.fr 0; have f_a1 := x_a.fr 1; have q_a2 := x_a.c2; have f_a2 := x_a.fr 2
    have q_b0 := x_b.c0; have q_b1 := x_b.c1; have f_b0 := x_b.fr 0; have f_b1 := x_b.fr 1; have q_b2 := x_b.c2; have f_b2 := x_b.fr 2
    have q_x0 := x_x.c0; have q_x1 := x_x.c1; have f_x0 := x_x.fr 0; have f_x1 := x_x.fr 1
    have q_y0 := x_y.c0; have q_y1 := x_y.c1; have f_y0 := x_y.fr 0; have f_y1 := x_y.fr 1
    go_wp2_with fail
    go_region_with ((first | (go_at_call 45; (with_reducible refine (read_any h.drw).mono ?_); rintro e v2 ⟨b1, A1, n1, c1, rfl, zc, hb1⟩; replace hb1 := undrew hb1; replace x_a := x_a.keep hb1; replace x_b := x_b.keep hb1; replace x_x := x_x.keep hb1; replace x_y := x_y.keep hb1; replace h := h.keep hb1; replace h2 := h2.keep hb1; replace hb := bthen hb hb1; clear hb1; replace q_a0 := x_a.c0; replace q_a1 := x_a.c1; replace f_a0 := x_a.fr 0; replace f_a1 := x_a.fr 1; replace q_a2 := x_a.c2; replace f_a2 := x_a.fr 2; replace q_b0 := x_b.c0; replace q_b1 := x_b.c1; replace f_b0 := x_b.fr 0; replace f_b1 := x_b.fr 1; replace q_b2 := x_b.c2; replace f_b2 := x_b.fr 2; replace q_x0 := x_x.c0; replace q_x1 := x_x.c1; replace f_x0 := x_x.fr 0; replace f_x1 := x_x.fr 1; replace q_y0 := x_y.c0; replace q_y1 := x_y.c1; replace f_y0 := x_y.fr 0; replace f_y1 := x_y.fr 1) | (go_at_call 45; (with_reducible refine (read_any h2).mono ?_); rintro e v3 ⟨b3, A3, n3, c3, rfl, zd, hb1⟩; replace x_a := x_a.keep hb1; replace x_b := x_b.keep hb1; replace x_x := x_x.keep hb1; replace x_y := x_y.keep hb1; replace h := h.keep hb1; replace h2 := h2.keep hb1; replace zc := zc.keep hb1; replace hb := bthen hb hb1; clear hb1; replace q_a0 := x_a.c0; replace q_a1 := x_a.c1; replace f_a0 := x_a.fr 0; replace f_a1 := x_a.fr 1; replace q_a2 := x_a.c2; replace f_a2 := x_a.fr 2; replace q_b0 := x_b.c0; replace q_b1 := x_b.c1; replace f_b0 := x_b.fr 0; replace f_b1 := x_b.fr 1; replace q_b2 := x_b.c2; replace f_b2 := x_b.fr 2; replace q_x0 := x_x.c0; replace q_x1 := x_x.c1; replace f_x0 := x_x.fr 0; replace f_x1 := x_x.fr 1; replace q_y0 := x_y.c0; replace q_y1 := x_y.c1; replace f_y0 := x_y.fr 0; replace f_y1 := x_y.fr 1)))
    all_goals
      skip
      replace x_b := x_b.asideD (b' := b1) (A' := A1) (n' := n1) (c' := c1) (e' := (cE e)) (g := w.heap.size) (by omega)
      replace x_x := x_x.asideD (b' := b1) (A' := A1) (n' := n1) (c' := c1) (e' := (cE e)) (g := w.heap.size) (by omega)
      replace x_y := x_y.asideD (b' := b1) (A' := A1) (n' := n1) (c' := c1) (e' := (cE e)) (g := w.heap.size) (by omega)
      replace h := h.putD (b' := b1) (A' := A1) (n' := n1) (c' := c1) (e' := (cE e)) x_a
      replace h2 := h2.putD (b' := b1) (A' := A1) (n' := n1) (c' := c1) (e' := (cE e)) x_a
      replace zc := zc.putD (b' := b1) (A' := A1) (n' := n1) (c' := c1) (e' := (cE e)) x_a
      replace zd := zd.putD (b' := b1) (A' := A1) (n' := n1) (c' := c1) (e' := (cE e)) x_a
      replace hb := put_belowD (g := w.heap.size) hb (by omega) (.bool b1) (.slice A1 n1 c1) (.int .i64 (cE e))
      replace x_a := x_a.put b1 A1 n1 c1 (cE e)
      clear q_a0 q_a1 f_a0 f_a1 q_a2 f_a2 q_b0 q_b1 f_b0 f_b1 q_b2 f_b2 q_x0 q_x1 f_x0 f_x1 q_y0 q_y1 f_y0 f_y1
      generalize ((v3.setCell ⟨w.heap.size, 0, none⟩ (.bool b1)).setCell ⟨w.heap.size, 1, none⟩ (.slice A1 n1 c1)).setCell ⟨w.heap.size, 2, none⟩ (.int .i64 (cE e)) = v4 at *
      have q_a0 := x_a.c0; have q_a1 := x_a.c1; have f_a0 := x_a.fr 0; have f_a1 := x_a.fr 1; have q_a2 := x_a.c2; have f_a2 := x_a.fr 2
      have q_b0 := x_b.c0; have q_b1 := x_b.c1; have f_b0 := x_b.fr 0; have f_b1 := x_b.fr 1; have q_b2 := x_b.c2; have f_b2 := x_b.fr 2
      have q_x0 := x_x.c0; have q_x1 := x_x.c1; have f_x0 := x_x.fr 0; have f_x1 := x_x.fr 1
      have q_y0 := x_y.c0; have q_y1 := x_y.c1; have f_y0 := x_y.fr 0; have f_y1 := x_y.fr 1
      replace x_a := x_a.asideD (b' := b3) (A' := A3) (n' := n3) (c' := c3) (e' := (cE f)) (g := w.heap.size + 1) (by omega)
      replace x_x := x_x.asideD (b' := b3) (A' := A3) (n' := n3) (c' := c3) (e' := (cE f)) (g := w.heap.size + 1) (by omega)
      replace x_y := x_y.asideD (b' := b3) (A' := A3) (n' := n3) (c' := c3) (e' := (cE f)) (g := w.heap.size + 1) (by omega)
      replace h := h.putD (b' := b3) (A' := A3) (n' := n3) (c' := c3) (e' := (cE f)) x_b
      replace h2 := h2.putD (b' := b3) (A' := A3) (n' := n3) (c' := c3) (e' := (cE f)) x_b
      replace zc := zc.putD (b' := b3) (A' := A3) (n' := n3) (c' := c3) (e' := (cE f)) x_b
      replace zd := zd.putD (b' := b3) (A' := A3) (n' := n3) (c' := c3) (e' := (cE f)) x_b
      replace hb := put_belowD (g := w.heap.size + 1) hb (by omega) (.bool b3) (.slice A3 n3 c3) (.int .i64 (cE f))
      replace x_b := x_b.put b3 A3 n3 c3 (cE f)
      clear q_a0 q_a1 f_a0 f_a1 q_a2 f_a2 q_b0 q_b1 f_b0 f_b1 q_b2 f_b2 q_x0 q_x1 f_x0 f_x1 q_y0 q_y1 f_y0 f_y1
      generalize ((v4.setCell ⟨w.heap.size + 1, 0, none⟩ (.bool b3)).setCell ⟨w.heap.size + 1, 1, none⟩ (.slice A3 n3 c3)).setCell ⟨w.heap.size + 1, 2, none⟩ (.int .i64 (cE f)) = v5 at *
      have q_a0 := x_a.c0; have q_a1 := x_a.c1; have f_a0 := x_a.fr 0; have f_a1 := x_a.fr 1; have q_a2 := x_a.c2; have f_a2 := x_a.fr 2
      have q_b0 := x_b.c0; have q_b1 := x_b.c1; have f_b0 := x_b.fr 0; have f_b1 := x_b.fr 1; have q_b2 := x_b.c2; have f_b2 := x_b.fr 2
      have q_x0 := x_x.c0; have q_x1 := x_x.c1; have f_x0 := x_x.fr 0; have f_x1 := x_x.fr 1
      have q_y0 := x_y.c0; have q_y1 := x_y.c1; have f_y0 := x_y.fr 0; have f_y1 := x_y.fr 1
      clear h h2
      have hw0 : IntKind.i64.wrap 0 = 0 := rfl
      have hw1 : IntKind.i64.wrap (cE e - cE f) = (cE e - cE f) := IntWalk.i64_in _ ⟨by omega, by omega⟩
      go_wp2_with fail
      go_region_held3 (fun w' => w'.cell? ⟨w.heap.size, 0, none⟩ = some (.bool b1) ∧ w'.cell? ⟨w.heap.size, 1, none⟩ = some (.slice A1 n1 c1) ∧ w'.cell? ⟨w.heap.size, 2, none⟩ = some (.int .i64 (cE e)) ∧ w'.cell? ⟨w.heap.size + 1, 0, none⟩ = some (.bool b3) ∧ w'.cell? ⟨w.heap.size + 1, 1, none⟩ = some (.slice A3 n3 c3) ∧ w'.cell? ⟨w.heap.size + 1, 2, none⟩ = some (.int .i64 (cE f)))
        (first | (with_reducible exact ⟨x_a.c0, x_a.c1, x_a.c2, x_b.c0, x_b.c1, x_b.c2⟩) | (with_reducible exact ⟨(x_a.aside (by omega)).c0, (x_a.aside (by omega)).c1, (x_a.aside (by omega)).c2, (x_b.aside (by omega)).c0, (x_b.aside (by omega)).c1, (x_b.aside (by omega)).c2⟩) | (with_reducible exact ⟨((x_a.aside (by omega)).aside (by omega)).c0, ((x_a.aside (by omega)).aside (by omega)).c1, ((x_a.aside (by omega)).aside (by omega)).c2, ((x_b.aside (by omega)).aside (by omega)).c0, ((x_b.aside (by omega)).aside (by omega)).c1, ((x_b.aside (by omega)).aside (by omega)).c2⟩) | (with_reducible exact ⟨(x_a.asideD (by omega)).c0, (x_a.asideD (by omega)).c1, (x_a.asideD (by omega)).c2, (x_b.asideD (by omega)).c0, (x_b.asideD (by omega)).c1, (x_b.asideD (by omega)).c2⟩) | (with_reducible exact ⟨((x_a.asideD (by omega)).asideD (by omega)).c0, ((x_a.asideD (by omega)).asideD (by omega)).c1, ((x_a.asideD (by omega)).asideD (by omega)).c2, ((x_b.asideD (by omega)).asideD (by omega)).c0, ((x_b.asideD (by omega)).asideD (by omega)).c1, ((x_b.asideD (by omega)).asideD (by omega)).c2⟩) | go_keep)
        (first | (go_at_call 38; (with_reducible refine (ZShl_any zc.drw (cE e - cE f) k hk hj).mono ?_); rintro e v6 ⟨A5, n5, c5, rfl, z5, hb1⟩; replace hb1 := undrew hb1; replace x_a := x_a.keep hb1; replace x_b := x_b.keep hb1; replace x_x := x_x.keep hb1; replace x_y := x_y.keep hb1; replace zc := zc.keep hb1; replace zd := zd.keep hb1; replace hb := bthen hb hb1; clear hb1; replace q_a0 := x_a.c0; replace q_a1 := x_a.c1; replace f_a0 := x_a.fr 0; replace f_a1 := x_a.fr 1; replace q_a2 := x_a.c2; replace f_a2 := x_a.fr 2; replace q_b0 := x_b.c0; replace q_b1 := x_b.c1; replace f_b0 := x_b.fr 0; replace f_b1 := x_b.fr 1; replace q_b2 := x_b.c2; replace f_b2 := x_b.fr 2; replace q_x0 := x_x.c0; replace q_x1 := x_x.c1; replace f_x0 := x_x.fr 0; replace f_x1 := x_x.fr 1; replace q_y0 := x_y.c0; replace q_y1 := x_y.c1; replace f_y0 := x_y.fr 0; replace f_y1 := x_y.fr 1; rw [HP.out] at z5 ⊢) | (go_at_call 38; (with_reducible refine (ZShl_any zd 0 k hk2 hj).mono ?_); rintro e v7 ⟨A6, n6, c6, rfl, z6, hb1⟩; replace x_a := x_a.keep hb1; replace x_b := x_b.keep hb1; replace x_x := x_x.keep hb1; replace x_y := x_y.keep hb1; replace zc := zc.keep hb1; replace zd := zd.keep hb1; replace z5 := z5.keep hb1; replace hb := bthen hb hb1; clear hb1; replace q_a0 := x_a.c0; replace q_a1 := x_a.c1; replace f_a0 := x_a.fr 0; replace f_a1 := x_a.fr 1; replace q_a2 := x_a.c2; replace f_a2 := x_a.fr 2; replace q_b0 := x_b.c0; replace q_b1 := x_b.c1; replace f_b0 := x_b.fr 0; replace f_b1 := x_b.fr 1; replace q_b2 := x_b.c2; replace f_b2 := x_b.fr 2; replace q_x0 := x_x.c0; replace q_x1 := x_x.c1; replace f_x0 := x_x.fr 0; replace f_x1 := x_x.fr 1; replace q_y0 := x_y.c0; replace q_y1 := x_y.c1; replace f_y0 := x_y.fr 0; replace f_y1 := x_y.fr 1; rw [HQ.out] at z6 ⊢))
      go_wp2
      replace x_a := x_a.aside (b' := (ngB (alP X e f))) (A' := A5) (n' := n5) (c' := c5) (g := w.heap.size + 1 + 1) (by omega)
      replace x_b := x_b.aside (b' := (ngB (alP X e f))) (A' := A5) (n' := n5) (c' := c5) (g := w.heap.size + 1 + 1) (by omega)
      replace x_y := x_y.aside (b' := (ngB (alP X e f))) (A' := A5) (n' := n5) (c' := c5) (g := w.heap.size + 1 + 1) (by omega)
      replace zc := zc.put (b' := (ngB (alP X e f))) (A' := A5) (n' := n5) (c' := c5) x_x
      replace zd := zd.put (b' := (ngB (alP X e f))) (A' := A5) (n' := n5) (c' := c5) x_x
      replace z5 := z5.put (b' := (ngB (alP X e f))) (A' := A5) (n' := n5) (c' := c5) x_x
      replace z6 := z6.put (b' := (ngB (alP X e f))) (A' := A5) (n' := n5) (c' := c5) x_x
      replace hb := put_below (g := w.heap.size + 1 + 1) hb (by omega) (.bool (ngB (alP X e f))) (.slice A5 n5 c5)
      replace x_x := x_x.put (ngB (alP X e f)) A5 n5 c5
      clear q_a0 q_a1 f_a0 f_a1 q_a2 f_a2 q_b0 q_b1 f_b0 f_b1 q_b2 f_b2 q_x0 q_x1 f_x0 f_x1 q_y0 q_y1 f_y0 f_y1
      generalize (v7.setCell ⟨w.heap.size + 1 + 1, 0, none⟩ (.bool (ngB (alP X e f)))).setCell ⟨w.heap.size + 1 + 1, 1, none⟩ (.slice A5 n5 c5) = v8 at *
      have q_a0 := x_a.c0; have q_a1 := x_a.c1; have f_a0 := x_a.fr 0; have f_a1 := x_a.fr 1; have q_a2 := x_a.c2; have f_a2 := x_a.fr 2
      have q_b0 := x_b.c0; have q_b1 := x_b.c1; have f_b0 := x_b.fr 0; have f_b1 := x_b.fr 1; have q_b2 := x_b.c2; have f_b2 := x_b.fr 2
      have q_x0 := x_x.c0; have q_x1 := x_x.c1; have f_x0 := x_x.fr 0; have f_x1 := x_x.fr 1
      have q_y0 := x_y.c0; have q_y1 := x_y.c1; have f_y0 := x_y.fr 0; have f_y1 := x_y.fr 1
      replace x_a := x_a.aside (b' := (ngB (alQ Y e f))) (A' := A6) (n' := n6) (c' := c6) (g := w.heap.size + 1 + 1 + 1) (by omega)
      replace x_b := x_b.aside (b' := (ngB (alQ Y e f))) (A' := A6) (n' := n6) (c' := c6) (g := w.heap.size + 1 + 1 + 1) (by omega)
      replace x_x := x_x.aside (b' := (ngB (alQ Y e f))) (A' := A6) (n' := n6) (c' := c6) (g := w.heap.size + 1 + 1 + 1) (by omega)
      replace zc := zc.put (b' := (ngB (alQ Y e f))) (A' := A6) (n' := n6) (c' := c6) x_y
      replace zd := zd.put (b' := (ngB (alQ Y e f))) (A' := A6) (n' := n6) (c' := c6) x_y
      replace z5 := z5.put (b' := (ngB (alQ Y e f))) (A' := A6) (n' := n6) (c' := c6) x_y
      replace z6 := z6.put (b' := (ngB (alQ Y e f))) (A' := A6) (n' := n6) (c' := c6) x_y
      replace hb := put_below (g := w.heap.size + 1 + 1 + 1) hb (by omega) (.bool (ngB (alQ Y e f))) (.slice A6 n6 c6)
      replace x_y := x_y.put (ngB (alQ Y e f)) A6 n6 c6
      clear q_a0 q_a1 f_a0 f_a1 q_a2 f_a2 q_b0 q_b1 f_b0 f_b1 q_b2 f_b2 q_x0 q_x1 f_x0 f_x1 q_y0 q_y1 f_y0 f_y1
      generalize (v8.setCell ⟨w.heap.size + 1 + 1 + 1, 0, none⟩ (.bool (ngB (alQ Y e f)))).setCell ⟨w.heap.size + 1 + 1 + 1, 1, none⟩ (.slice A6 n6 c6) = v9 at *
      have q_a0 := x_a.c0; have q_a1 := x_a.c1; have f_a0 := x_a.fr 0; have f_a1 := x_a.fr 1; have q_a2 := x_a.c2; have f_a2 := x_a.fr 2
      have q_b0 := x_b.c0; have q_b1 := x_b.c1; have f_b0 := x_b.fr 0; have f_b1 := x_b.fr 1; have q_b2 := x_b.c2; have f_b2 := x_b.fr 2
      have q_x0 := x_x.c0; have q_x1 := x_x.c1; have f_x0 := x_x.fr 0; have f_x1 := x_x.fr 1
      have q_y0 := x_y.c0; have q_y1 := x_y.c1; have f_y0 := x_y.fr 0; have f_y1 := x_y.fr 1
      refine bodyPost_ret (v := .tuple #[.agg #[.bool (ngB (alP X e f)), .slice A5 n5 c5], .agg #[.bool (ngB (alQ Y e f)), .slice A6 n6 c6], .int .i64 (cE f)]) (by simp [results, Tryd.results51, go_sem, q_x0, q_x1, q_y0, q_y1]) rfl ?_
      exact ⟨_, _, _, _, _, _, by rw [HM.out], z5, z6, hb⟩
  · have hm : alE e f = cE e := by unfold alE; omega
    have hp : cM X e * 2 ^ sc 0 = alP X e f := alP_of hm (by omega) (by omega) (by omega)
    have hq : cM Y f * 2 ^ sc (cE f - cE e) = alQ Y e f := alQ_of hm (by omega) (by omega) (by omega)
    have HM := Lib.hid hm; have HP := Lib.hid hp; have HQ := Lib.hid hq; clear hm hp hq
    go_enter Tryd.func51, Tryd.ntmps51
    go_wp2_with fail
    have x_a : Dx (w.alloc (.cells #[.bool b, .slice A n c, .int .i64 e] 26)) (w.heap.size) b A n c e := by have := Dx.new w b A n c e; simpa using this
    replace x_a := x_a.alloc (.cells #[.bool b2, .slice A2 n2 c2, .int .i64 f] 26)
    have x_b : Dx ((w.alloc (.cells #[.bool b, .slice A n c, .int .i64 e] 26)).alloc (.cells #[.bool b2, .slice A2 n2 c2, .int .i64 f] 26)) (w.heap.size + 1) b2 A2 n2 c2 f := by have := Dx.new (w.alloc (.cells #[.bool b, .slice A n c, .int .i64 e] 26)) b2 A2 n2 c2 f; simpa using this
    replace x_a := x_a.alloc (.cells #[.bool false, .slice none 0 0] 24)
    replace x_b := x_b.alloc (.cells #[.bool false, .slice none 0 0] 24)
    have x_x : Bx (((w.alloc (.cells #[.bool b, .slice A n c, .int .i64 e] 26)).alloc (.cells #[.bool b2, .slice A2 n2 c2, .int .i64 f] 26)).alloc (.cells #[.bool false, .slice none 0 0] 24)) (w.heap.size + 1 + 1) false none 0 0 := by have := Bx.new ((w.alloc (.cells #[.bool b, .slice A n c, .int .i64 e] 26)).alloc (.cells #[.bool b2, .slice A2 n2 c2, .int .i64 f] 26)) false none 0 0; simpa using this
    replace x_a := x_a.alloc (.cells #[.bool false, .slice none 0 0] 24)
    replace x_b := x_b.alloc (.cells #[.bool false, .slice none 0 0] 24)
    replace x_x := x_x.alloc (.cells #[.bool false, .slice none 0 0] 24)
    have x_y : Bx ((((w.alloc (.cells #[.bool b, .slice A n c, .int .i64 e] 26)).alloc (.cells #[.bool b2, .slice A2 n2 c2, .int .i64 f] 26)).alloc (.cells #[.bool false, .slice none 0 0] 24)).alloc (.cells #[.bool false, .slice none 0 0] 24)) (w.heap.size + 1 + 1 + 1) false none 0 0 := by have := Bx.new (((w.alloc (.cells #[.bool b, .slice A n c, .int .i64 e] 26)).alloc (.cells #[.bool b2, .slice A2 n2 c2, .int .i64 f] 26)).alloc (.cells #[.bool false, .slice none 0 0] 24)) false none 0 0; simpa using this
    have hb : Below w.heap.size w ((((w.alloc (.cells #[.bool b, .slice A n c, .int .i64 e] 26)).alloc (.cells #[.bool b2, .slice A2 n2 c2, .int .i64 f] 26)).alloc (.cells #[.bool false, .slice none 0 0] 24)).alloc (.cells #[.bool false, .slice none 0 0] 24)) := (Below.alloc (Below.alloc (Below.alloc (Below.alloc (Below.refl w.heap.size w) (by simp) (.cells #[.bool b, .slice A n c, .int .i64 e] 26)) (by simp) (.cells #[.bool b2, .slice A2 n2 c2, .int .i64 f] 26)) (by simp; omega) (.cells #[.bool false, .slice none 0 0] 24)) (by simp; omega) (.cells #[.bool false, .slice none 0 0] 24))
    generalize (((w.alloc (.cells #[.bool b, .slice A n c, .int .i64 e] 26)).alloc (.cells #[.bool b2, .slice A2 n2 c2, .int .i64 f] 26)).alloc (.cells #[.bool false, .slice none 0 0] 24)).alloc (.cells #[.bool false, .slice none 0 0] 24) = v1 at *
    replace h := h.keep hb
    replace h2 := h2.keep hb
    have q_a0 := x_a.c0; have q_a1 := x_a.c1; have f_a0 := x_a.fr 0; have f_a1 := x_a.fr 1; have q_a2 := x_a.c2; have f_a2 := x_a.fr 2
    have q_b0 := x_b.c0; have q_b1 := x_b.c1; have f_b0 := x_b.fr 0; have f_b1 := x_b.fr 1; have q_b2 := x_b.c2; have f_b2 := x_b.fr 2
    have q_x0 := x_x.c0; have q_x1 := x_x.c1; have f_x0 := x_x.fr 0; have f_x1 := x_x.fr 1
    have q_y0 := x_y.c0; have q_y1 := x_y.c1; have f_y0 := x_y.fr 0; have f_y1 := x_y.fr 1
    go_wp2_with fail
    go_region_with ((first | (go_at_call 45; (with_reducible refine (read_any h.drw).mono ?_); rintro e v2 ⟨b1, A1, n1, c1, rfl, zc, hb1⟩; replace hb1 := undrew hb1; replace x_a := x_a.keep hb1; replace x_b := x_b.keep hb1; replace x_x := x_x.keep hb1; replace x_y := x_y.keep hb1; replace h := h.keep hb1; replace h2 := h2.keep hb1; replace hb := bthen hb hb1; clear hb1; replace q_a0 := x_a.c0; replace q_a1 := x_a.c1; replace f_a0 := x_a.fr 0; replace f_a1 := x_a.fr 1; replace q_a2 := x_a.c2; replace f_a2 := x_a.fr 2; replace q_b0 := x_b.c0; replace q_b1 := x_b.c1; replace f_b0 := x_b.fr 0; replace f_b1 := x_b.fr 1; replace q_b2 := x_b.c2; replace f_b2 := x_b.fr 2; replace q_x0 := x_x.c0; replace q_x1 := x_x.c1; replace f_x0 := x_x.fr 0; replace f_x1 := x_x.fr 1; replace q_y0 := x_y.c0; replace q_y1 := x_y.c1; replace f_y0 := x_y.fr 0; replace f_y1 := x_y.fr 1) | (go_at_call 45; (with_reducible refine (read_any h2).mono ?_); rintro e v3 ⟨b3, A3, n3, c3, rfl, zd, hb1⟩; replace x_a := x_a.keep hb1; replace x_b := x_b.keep hb1; replace x_x := x_x.keep hb1; replace x_y := x_y.keep hb1; replace h := h.keep hb1; replace h2 := h2.keep hb1; replace zc := zc.keep hb1; replace hb := bthen hb hb1; clear hb1; replace q_a0 := x_a.c0; replace q_a1 := x_a.c1; replace f_a0 := x_a.fr 0; replace f_a1 := x_a.fr 1; replace q_a2 := x_a.c2; replace f_a2 := x_a.fr 2; replace q_b0 := x_b.c0; replace q_b1 := x_b.c1; replace f_b0 := x_b.fr 0; replace f_b1 := x_b.fr 1; replace q_b2 := x_b.c2; replace f_b2 := x_b.fr 2; replace q_x0 := x_x.c0; replace q_x1 := x_x.c1; replace f_x0 := x_x.fr 0; replace f_x1 := x_x.fr 1; replace q_y0 := x_y.c0; replace q_y1 := x_y.c1; replace f_y0 := x_y.fr 0; replace f_y1 := x_y.fr 1)))
    all_goals
      skip
      replace x_b := x_b.asideD (b' := b1) (A' := A1) (n' := n1) (c' := c1) (e' := (cE e)) (g := w.heap.size) (by omega)
      replace x_x := x_x.asideD (b' := b1) (A' := A1) (n' := n1) (c' := c1) (e' := (cE e)) (g := w.heap.size) (by omega)
      replace x_y := x_y.asideD (b' := b1) (A' := A1) (n' := n1) (c' := c1) (e' := (cE e)) (g := w.heap.size) (by omega)
      replace h := h.putD (b' := b1) (A' := A1) (n' := n1) (c' := c1) (e' := (cE e)) x_a
      replace h2 := h2.putD (b' := b1) (A' := A1) (n' := n1) (c' := c1) (e' := (cE e)) x_a
      replace zc := zc.putD (b' := b1) (A' := A1) (n' := n1) (c' := c1) (e' := (cE e)) x_a
      replace zd := zd.putD (b' := b1) (A' := A1) (n' := n1) (c' := c1) (e' := (cE e)) x_a
      replace hb := put_belowD (g := w.heap.size) hb (by omega) (.bool b1) (.slice A1 n1 c1) (.int .i64 (cE e))
      replace x_a := x_a.put b1 A1 n1 c1 (cE e)
      clear q_a0 q_a1 f_a0 f_a1 q_a2 f_a2 q_b0 q_b1 f_b0 f_b1 q_b2 f_b2 q_x0 q_x1 f_x0 f_x1 q_y0 q_y1 f_y0 f_y1
      generalize ((v3.setCell ⟨w.heap.size, 0, none⟩ (.bool b1)).setCell ⟨w.heap.size, 1, none⟩ (.slice A1 n1 c1)).setCell ⟨w.heap.size, 2, none⟩ (.int .i64 (cE e)) = v4 at *
      have q_a0 := x_a.c0; have q_a1 := x_a.c1; have f_a0 := x_a.fr 0; have f_a1 := x_a.fr 1; have q_a2 := x_a.c2; have f_a2 := x_a.fr 2
      have q_b0 := x_b.c0; have q_b1 := x_b.c1; have f_b0 := x_b.fr 0; have f_b1 := x_b.fr 1; have q_b2 := x_b.c2; have f_b2 := x_b.fr 2
      have q_x0 := x_x.c0; have q_x1 := x_x.c1; have f_x0 := x_x.fr 0; have f_x1 := x_x.fr 1
      have q_y0 := x_y.c0; have q_y1 := x_y.c1; have f_y0 := x_y.fr 0; have f_y1 := x_y.fr 1
      replace x_a := x_a.asideD (b' := b3) (A' := A3) (n' := n3) (c' := c3) (e' := (cE f)) (g := w.heap.size + 1) (by omega)
      replace x_x := x_x.asideD (b' := b3) (A' := A3) (n' := n3) (c' := c3) (e' := (cE f)) (g := w.heap.size + 1) (by omega)
      replace x_y := x_y.asideD (b' := b3) (A' := A3) (n' := n3) (c' := c3) (e' := (cE f)) (g := w.heap.size + 1) (by omega)
      replace h := h.putD (b' := b3) (A' := A3) (n' := n3) (c' := c3) (e' := (cE f)) x_b
      replace h2 := h2.putD (b' := b3) (A' := A3) (n' := n3) (c' := c3) (e' := (cE f)) x_b
      replace zc := zc.putD (b' := b3) (A' := A3) (n' := n3) (c' := c3) (e' := (cE f)) x_b
      replace zd := zd.putD (b' := b3) (A' := A3) (n' := n3) (c' := c3) (e' := (cE f)) x_b
      replace hb := put_belowD (g := w.heap.size + 1) hb (by omega) (.bool b3) (.slice A3 n3 c3) (.int .i64 (cE f))
      replace x_b := x_b.put b3 A3 n3 c3 (cE f)
      clear q_a0 q_a1 f_a0 f_a1 q_a2 f_a2 q_b0 q_b1 f_b0 f_b1 q_b2 f_b2 q_x0 q_x1 f_x0 f_x1 q_y0 q_y1 f_y0 f_y1
      generalize ((v4.setCell ⟨w.heap.size + 1, 0, none⟩ (.bool b3)).setCell ⟨w.heap.size + 1, 1, none⟩ (.slice A3 n3 c3)).setCell ⟨w.heap.size + 1, 2, none⟩ (.int .i64 (cE f)) = v5 at *
      have q_a0 := x_a.c0; have q_a1 := x_a.c1; have f_a0 := x_a.fr 0; have f_a1 := x_a.fr 1; have q_a2 := x_a.c2; have f_a2 := x_a.fr 2
      have q_b0 := x_b.c0; have q_b1 := x_b.c1; have f_b0 := x_b.fr 0; have f_b1 := x_b.fr 1; have q_b2 := x_b.c2; have f_b2 := x_b.fr 2
      have q_x0 := x_x.c0; have q_x1 := x_x.c1; have f_x0 := x_x.fr 0; have f_x1 := x_x.fr 1
      have q_y0 := x_y.c0; have q_y1 := x_y.c1; have f_y0 := x_y.fr 0; have f_y1 := x_y.fr 1
      clear h h2
      have hw0 : IntKind.i64.wrap 0 = 0 := rfl
      have hw1 : IntKind.i64.wrap (cE f - cE e) = (cE f - cE e) := IntWalk.i64_in _ ⟨by omega, by omega⟩
      go_wp2_with fail
      go_region_held3 (fun w' => w'.cell? ⟨w.heap.size, 0, none⟩ = some (.bool b1) ∧ w'.cell? ⟨w.heap.size, 1, none⟩ = some (.slice A1 n1 c1) ∧ w'.cell? ⟨w.heap.size, 2, none⟩ = some (.int .i64 (cE e)) ∧ w'.cell? ⟨w.heap.size + 1, 0, none⟩ = some (.bool b3) ∧ w'.cell? ⟨w.heap.size + 1, 1, none⟩ = some (.slice A3 n3 c3) ∧ w'.cell? ⟨w.heap.size + 1, 2, none⟩ = some (.int .i64 (cE f)))
        (first | (with_reducible exact ⟨x_a.c0, x_a.c1, x_a.c2, x_b.c0, x_b.c1, x_b.c2⟩) | (with_reducible exact ⟨(x_a.aside (by omega)).c0, (x_a.aside (by omega)).c1, (x_a.aside (by omega)).c2, (x_b.aside (by omega)).c0, (x_b.aside (by omega)).c1, (x_b.aside (by omega)).c2⟩) | (with_reducible exact ⟨((x_a.aside (by omega)).aside (by omega)).c0, ((x_a.aside (by omega)).aside (by omega)).c1, ((x_a.aside (by omega)).aside (by omega)).c2, ((x_b.aside (by omega)).aside (by omega)).c0, ((x_b.aside (by omega)).aside (by omega)).c1, ((x_b.aside (by omega)).aside (by omega)).c2⟩) | (with_reducible exact ⟨(x_a.asideD (by omega)).c0, (x_a.asideD (by omega)).c1, (x_a.asideD (by omega)).c2, (x_b.asideD (by omega)).c0, (x_b.asideD (by omega)).c1, (x_b.asideD (by omega)).c2⟩) | (with_reducible exact ⟨((x_a.asideD (by omega)).asideD (by omega)).c0, ((x_a.asideD (by omega)).asideD (by omega)).c1, ((x_a.asideD (by omega)).asideD (by omega)).c2, ((x_b.asideD (by omega)).asideD (by omega)).c0, ((x_b.asideD (by omega)).asideD (by omega)).c1, ((x_b.asideD (by omega)).asideD (by omega)).c2⟩) | go_keep)
        (first | (go_at_call 38; (with_reducible refine (ZShl_any zc.drw 0 k hk hj).mono ?_); rintro e v6 ⟨A5, n5, c5, rfl, z5, hb1⟩; replace hb1 := undrew hb1; replace x_a := x_a.keep hb1; replace x_b := x_b.keep hb1; replace x_x := x_x.keep hb1; replace x_y := x_y.keep hb1; replace zc := zc.keep hb1; replace zd := zd.keep hb1; replace hb := bthen hb hb1; clear hb1; replace q_a0 := x_a.c0; replace q_a1 := x_a.c1; replace f_a0 := x_a.fr 0; replace f_a1 := x_a.fr 1; replace q_a2 := x_a.c2; replace f_a2 := x_a.fr 2; replace q_b0 := x_b.c0; replace q_b1 := x_b.c1; replace f_b0 := x_b.fr 0; replace f_b1 := x_b.fr 1; replace q_b2 := x_b.c2; replace f_b2 := x_b.fr 2; replace q_x0 := x_x.c0; replace q_x1 := x_x.c1; replace f_x0 := x_x.fr 0; replace f_x1 := x_x.fr 1; replace q_y0 := x_y.c0; replace q_y1 := x_y.c1; replace f_y0 := x_y.fr 0; replace f_y1 := x_y.fr 1; rw [HP.out] at z5 ⊢) | (go_at_call 38; (with_reducible refine (ZShl_any zd (cE f - cE e) k hk2 hj).mono ?_); rintro e v7 ⟨A6, n6, c6, rfl, z6, hb1⟩; replace x_a := x_a.keep hb1; replace x_b := x_b.keep hb1; replace x_x := x_x.keep hb1; replace x_y := x_y.keep hb1; replace zc := zc.keep hb1; replace zd := zd.keep hb1; replace z5 := z5.keep hb1; replace hb := bthen hb hb1; clear hb1; replace q_a0 := x_a.c0; replace q_a1 := x_a.c1; replace f_a0 := x_a.fr 0; replace f_a1 := x_a.fr 1; replace q_a2 := x_a.c2; replace f_a2 := x_a.fr 2; replace q_b0 := x_b.c0; replace q_b1 := x_b.c1; replace f_b0 := x_b.fr 0; replace f_b1 := x_b.fr 1; replace q_b2 := x_b.c2; replace f_b2 := x_b.fr 2; replace q_x0 := x_x.c0; replace q_x1 := x_x.c1; replace f_x0 := x_x.fr 0; replace f_x1 := x_x.fr 1; replace q_y0 := x_y.c0; replace q_y1 := x_y.c1; replace f_y0 := x_y.fr 0; replace f_y1 := x_y.fr 1; rw [HQ.out] at z6 ⊢))
      go_wp2
      replace x_a := x_a.aside (b' := (ngB (alP X e f))) (A' := A5) (n' := n5) (c' := c5) (g := w.heap.size + 1 + 1) (by omega)
      replace x_b := x_b.aside (b' := (ngB (alP X e f))) (A' := A5) (n' := n5) (c' := c5) (g := w.heap.size + 1 + 1) (by omega)
      replace x_y := x_y.aside (b' := (ngB (alP X e f))) (A' := A5) (n' := n5) (c' := c5) (g := w.heap.size + 1 + 1) (by omega)
      replace zc := zc.put (b' := (ngB (alP X e f))) (A' := A5) (n' := n5) (c' := c5) x_x
      replace zd := zd.put (b' := (ngB (alP X e f))) (A' := A5) (n' := n5) (c' := c5) x_x
      replace z5 := z5.put (b' := (ngB (alP X e f))) (A' := A5) (n' := n5) (c' := c5) x_x
      replace z6 := z6.put (b' := (ngB (alP X e f))) (A' := A5) (n' := n5) (c' := c5) x_x
      replace hb := put_below (g := w.heap.size + 1 + 1) hb (by omega) (.bool (ngB (alP X e f))) (.slice A5 n5 c5)
      replace x_x := x_x.put (ngB (alP X e f)) A5 n5 c5
      clear q_a0 q_a1 f_a0 f_a1 q_a2 f_a2 q_b0 q_b1 f_b0 f_b1 q_b2 f_b2 q_x0 q_x1 f_x0 f_x1 q_y0 q_y1 f_y0 f_y1
      generalize (v7.setCell ⟨w.heap.size + 1 + 1, 0, none⟩ (.bool (ngB (alP X e f)))).setCell ⟨w.heap.size + 1 + 1, 1, none⟩ (.slice A5 n5 c5) = v8 at *
      have q_a0 := x_a.c0; have q_a1 := x_a.c1; have f_a0 := x_a.fr 0; have f_a1 := x_a.fr 1; have q_a2 := x_a.c2; have f_a2 := x_a.fr 2
      have q_b0 := x_b.c0; have q_b1 := x_b.c1; have f_b0 := x_b.fr 0; have f_b1 := x_b.fr 1; have q_b2 := x_b.c2; have f_b2 := x_b.fr 2
      have q_x0 := x_x.c0; have q_x1 := x_x.c1; have f_x0 := x_x.fr 0; have f_x1 := x_x.fr 1
      have q_y0 := x_y.c0; have q_y1 := x_y.c1; have f_y0 := x_y.fr 0; have f_y1 := x_y.fr 1
      replace x_a := x_a.aside (b' := (ngB (alQ Y e f))) (A' := A6) (n' := n6) (c' := c6) (g := w.heap.size + 1 + 1 + 1) (by omega)
      replace x_b := x_b.aside (b' := (ngB (alQ Y e f))) (A' := A6) (n' := n6) (c' := c6) (g := w.heap.size + 1 + 1 + 1) (by omega)
      replace x_x := x_x.aside (b' := (ngB (alQ Y e f))) (A' := A6) (n' := n6) (c' := c6) (g := w.heap.size + 1 + 1 + 1) (by omega)
      replace zc := zc.put (b' := (ngB (alQ Y e f))) (A' := A6) (n' := n6) (c' := c6) x_y
      replace zd := zd.put (b' := (ngB (alQ Y e f))) (A' := A6) (n' := n6) (c' := c6) x_y
      replace z5 := z5.put (b' := (ngB (alQ Y e f))) (A' := A6) (n' := n6) (c' := c6) x_y
      replace z6 := z6.put (b' := (ngB (alQ Y e f))) (A' := A6) (n' := n6) (c' := c6) x_y
      replace hb := put_below (g := w.heap.size + 1 + 1 + 1) hb (by omega) (.bool (ngB (alQ Y e f))) (.slice A6 n6 c6)
      replace x_y := x_y.put (ngB (alQ Y e f)) A6 n6 c6
      clear q_a0 q_a1 f_a0 f_a1 q_a2 f_a2 q_b0 q_b1 f_b0 f_b1 q_b2 f_b2 q_x0 q_x1 f_x0 f_x1 q_y0 q_y1 f_y0 f_y1
      generalize (v8.setCell ⟨w.heap.size + 1 + 1 + 1, 0, none⟩ (.bool (ngB (alQ Y e f)))).setCell ⟨w.heap.size + 1 + 1 + 1, 1, none⟩ (.slice A6 n6 c6) = v9 at *
      have q_a0 := x_a.c0; have q_a1 := x_a.c1; have f_a0 := x_a.fr 0; have f_a1 := x_a.fr 1; have q_a2 := x_a.c2; have f_a2 := x_a.fr 2
      have q_b0 := x_b.c0; have q_b1 := x_b.c1; have f_b0 := x_b.fr 0; have f_b1 := x_b.fr 1; have q_b2 := x_b.c2; have f_b2 := x_b.fr 2
      have q_x0 := x_x.c0; have q_x1 := x_x.c1; have f_x0 := x_x.fr 0; have f_x1 := x_x.fr 1
      have q_y0 := x_y.c0; have q_y1 := x_y.c1; have f_y0 := x_y.fr 0; have f_y1 := x_y.fr 1
      refine bodyPost_ret (v := .tuple #[.agg #[.bool (ngB (alP X e f)), .slice A5 n5 c5], .agg #[.bool (ngB (alQ Y e f)), .slice A6 n6 c6], .int .i64 (cE e)]) (by simp [results, Tryd.results51, go_sem, q_x0, q_x1, q_y0, q_y1]) rfl ?_
      exact ⟨_, _, _, _, _, _, by rw [HM.out], z5, z6, hb⟩

end Go.Proofs.YtcoidcbbdibnaaaDoor
