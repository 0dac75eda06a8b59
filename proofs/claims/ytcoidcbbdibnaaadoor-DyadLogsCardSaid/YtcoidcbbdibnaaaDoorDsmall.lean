/-
  the laws of dyad: small.
-/
import Derived.Test.YtcoidcbbdibnaaaDoorDcut
namespace Go.Proofs.YtcoidcbbdibnaaaDoor
open Go.RowKit
set_option linter.unusedVariables false

section
variable {w : World} {g n c n' c' : Nat} {b b2 : Bool} {A A2 : Option Addr} {n2 c2 : Nat} {e e' X : Int} {k : Nat} {l : List Int}
theorem Dx.put2 (x : Dx w g b A n c e) (e' : Int) : Dx (w.setCell ⟨g, 2, none⟩ (.int .i64 e')) g b A n c e' := by
  unfold Dx at x ⊢
  simp [World.setCell, Array.getElem?_modify, x]
theorem Rd.put2 (hr : Rd w w.heap.size A n c l) (x : Dx w g b2 A2 n2 c2 e) (e' : Int) : Rd (w.setCell ⟨g, 2, none⟩ (.int .i64 e')) (w.setCell ⟨g, 2, none⟩ (.int .i64 e')).heap.size A n c l := by
  have h2 := x.c2
  refine ⟨hr.1, hr.2.1, hr.2.2.1, hr.2.2.2.1, fun hn => ?_⟩
  obtain ⟨d, off, e, hd, hc⟩ := hr.at_ hn
  refine ⟨d, off, e, by simp [World.setCell]; exact hd, fun k hk => ?_⟩
  have hck := hc k hk
  have e2 : (⟨d, off + k, none⟩ : Addr) ≠ ⟨g, 2, none⟩ := fun e => by rw [e, h2] at hck; cases hck
  rw [World.cell?_setCell_other _ _ _ _ e2.symm]
  exact hck
end
/-- What small hands back. -/
def DsPost (w : World) (b : Bool) (e : Int) (en : Ending) (w' : World) : Prop := ∃ A n c X, en = .returned (.agg #[.bool b, .slice A n c, .int .i64 (e.tmod 600)]) ∧ Zr w' b A n c X 4 ∧ Below w.heap.size w w'

set_option maxRecDepth 100000 in
set_option maxHeartbeats 2000000 in
theorem Dsmall_any {b : Bool} {A : Option Addr} {n c : Nat} {l : List Int} {e : Int} {w : World} (h : Rd w w.heap.size A n c l) :
    Calls Tryd.prog 37 #[.agg #[.bool b, .slice A n c, .int .i64 e]] w (DsPost w b e) := by
  go_enter Tryd.func37, Tryd.ntmps37
  go_wp2_with fail
  have x_a : Dx (w.alloc (.cells #[.bool b, .slice A n c, .int .i64 e] 26)) (w.heap.size) b A n c e := by have := Dx.new w b A n c e; simpa using this
  replace x_a := x_a.alloc (.cells #[.bool false, .slice none 0 0, .int .i64 0] 26)
  have x_r : Dx ((w.alloc (.cells #[.bool b, .slice A n c, .int .i64 e] 26)).alloc (.cells #[.bool false, .slice none 0 0, .int .i64 0] 26)) (w.heap.size + 1) false none 0 0 0 := by have := Dx.new (w.alloc (.cells #[.bool b, .slice A n c, .int .i64 e] 26)) false none 0 0 0; simpa using this
  have hb : Below w.heap.size w ((w.alloc (.cells #[.bool b, .slice A n c, .int .i64 e] 26)).alloc (.cells #[.bool false, .slice none 0 0, .int .i64 0] 26)) := (Below.alloc (Below.alloc (Below.refl w.heap.size w) (by simp) (.cells #[.bool b, .slice A n c, .int .i64 e] 26)) (by simp) (.cells #[.bool false, .slice none 0 0, .int .i64 0] 26))
  generalize (w.alloc (.cells #[.bool b, .slice A n c, .int .i64 e] 26)).alloc (.cells #[.bool false, .slice none 0 0, .int .i64 0] 26) = v1 at *
  replace h := h.go hb
  have q_a0 := x_a.c0; have q_a1 := x_a.c1; have f_a0 := x_a.fr 0; have f_a1 := x_a.fr 1; have q_a2 := x_a.c2; have f_a2 := x_a.fr 2
  have q_r0 := x_r.c0; have q_r1 := x_r.c1; have f_r0 := x_r.fr 0; have f_r1 := x_r.fr 1; have q_r2 := x_r.c2; have f_r2 := x_r.fr 2
  go_wp2_with fail
  with_reducible refine (Dcut_at h 4 4 rfl (by omega)).mono ?_
  rintro e v2 ⟨A1, n1, c1, rfl, p1, k1, hb1⟩
  replace x_a := x_a.keep hb1
  replace x_r := x_r.keep hb1
  replace h := h.go hb1
  replace hb := bthen hb hb1
  clear hb1
  replace q_a0 := x_a.c0; replace q_a1 := x_a.c1; replace f_a0 := x_a.fr 0; replace f_a1 := x_a.fr 1; replace q_a2 := x_a.c2; replace f_a2 := x_a.fr 2
  replace q_r0 := x_r.c0; replace q_r1 := x_r.c1; replace f_r0 := x_r.fr 0; replace f_r1 := x_r.fr 1; replace q_r2 := x_r.c2; replace f_r2 := x_r.fr 2
  clear h
  have x3 := x_a.put b A1 n1 c1 e
  have x4 := x3.put2 (e.tmod 600)
  have r3 := x_r.asideD (b' := b) (A' := A1) (n' := n1) (c' := c1) (e' := e) (g := w.heap.size) (by omega)
  have r4 := r3.far (p := ⟨w.heap.size, 2, none⟩) (by simp) (.int .i64 (e.tmod 600))
  have y0 := x3.c2; have y1 := x4.c0; have y2 := x4.c1; have y3 := x4.c2; have y4 := r4.fr 0; have y5 := r4.fr 1; have y6 := r4.fr 2; have y7 := x3.fr 2; have y8 := r4.c0; have y9 := r4.c1; have y10 := r4.c2
  have p3 := (p1.sputD (b' := b) (A' := A1) (n' := n1) (c' := c1) (e' := e) x_a).put2 x3 (e.tmod 600)
  have hb3 := (put_belowD (g := w.heap.size) hb (by omega) (.bool b) (.slice A1 n1 c1) (.int .i64 e)).setCell (p := ⟨w.heap.size, 2, none⟩) (Nat.le_refl _) (.int .i64 (e.tmod 600))
  go_wp2
  have zz := r4.put b A1 n1 c1 (e.tmod 600)
  refine bodyPost_ret (v := .agg #[.bool b, .slice A1 n1 c1, .int .i64 (e.tmod 600)]) (by simp [results, Tryd.results37, go_sem, zz.c0, zz.c1, zz.c2]) rfl ?_
  exact ⟨_, _, _, _, rfl, ⟨_, p3.sputD r4, rfl, k1⟩, put_belowD hb3 (by omega) _ _ _⟩

end Go.Proofs.YtcoidcbbdibnaaaDoor
