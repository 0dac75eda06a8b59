/-
  the laws of dyad: cut.
-/
import Derived.Test.YtcoidcbbdibnaaaDoorDint
import Derived.Test.YtcoidcbbdibnaaaDoorZcut
namespace Go.Proofs.YtcoidcbbdibnaaaDoor
open Go.RowKit
set_option linter.unusedVariables false

/-- What cut hands back: the same sign and exponent, at most k limbs of its own. -/
def DcPost (w : World) (b : Bool) (l : List Int) (e : Int) (k : Nat) (en : Ending) (w' : World) : Prop := ∃ A n c, en = .returned (.agg #[.bool b, .slice A n c, .int .i64 e]) ∧ Rd w' w'.heap.size A n c (l.take k) ∧ n ≤ k ∧ Below w.heap.size w w'

set_option maxRecDepth 100000 in
set_option maxHeartbeats 2000000 in
theorem Dcut_any {b : Bool} {A : Option Addr} {n c : Nat} {l : List Int} {e : Int} {w : World} (h : Rd w w.heap.size A n c l) (k : Nat) (hk : k ≤ 1000) :
    Calls Tryd.prog 10 #[.agg #[.bool b, .slice A n c, .int .i64 e], .int .i64 k] w (DcPost w b l e k) := by
  have hcap := h.cap
  have hbig := h.big
  have HLEN := Lib.hid h.len
  by_cases hnk : k < n
  · have hkc : k ≤ c := by omega
    have hlt : (k : Int) < n := by omega
    replace h := h.take (show k ≤ n by omega)
    go_enter Tryd.func10, Tryd.ntmps10
    go_wp2_with fail
    have x_a : Dx (w.alloc (.cells #[.bool b, .slice A n c, .int .i64 e] 26)) (w.heap.size) b A n c e := by have := Dx.new w b A n c e; simpa using this
    replace x_a := x_a.alloc (.cells #[.bool false, .slice none 0 0, .int .i64 0] 26)
    have x_r : Dx ((w.alloc (.cells #[.bool b, .slice A n c, .int .i64 e] 26)).alloc (.cells #[.bool false, .slice none 0 0, .int .i64 0] 26)) (w.heap.size + 1) false none 0 0 0 := by have := Dx.new (w.alloc (.cells #[.bool b, .slice A n c, .int .i64 e] 26)) false none 0 0 0; simpa using this
    have hb : Below w.heap.size w ((w.alloc (.cells #[.bool b, .slice A n c, .int .i64 e] 26)).alloc (.cells #[.bool false, .slice none 0 0, .int .i64 0] 26)) := (Below.alloc (Below.alloc (Below.refl w.heap.size w) (by simp) (.cells #[.bool b, .slice A n c, .int .i64 e] 26)) (by simp) (.cells #[.bool false, .slice none 0 0, .int .i64 0] 26))
    generalize (w.alloc (.cells #[.bool b, .slice A n c, .int .i64 e] 26)).alloc (.cells #[.bool false, .slice none 0 0, .int .i64 0] 26) = v1 at *
    replace h := h.go hb
    have q_a0 := x_a.c0; have q_a1 := x_a.c1; have f_a0 := x_a.fr 0; have f_a1 := x_a.fr 1; have q_a2 := x_a.c2; have f_a2 := x_a.fr 2
    have q_r0 := x_r.c0; have q_r1 := x_r.c1; have f_r0 := x_r.fr 0; have f_r1 := x_r.fr 1; have q_r2 := x_r.c2; have f_r2 := x_r.fr 2
    go_wp2_with fail
    have ho := Ow.empty v1 v1.heap.size (Nat.le_refl _)
    have lt_a := x_a.lt; have lt_r := x_r.lt
    have hb2 := below_alloc v1 (.cells #[] 31)
    have h3 := h.go hb2
    have x_a3 := x_a.keep hb2; have x_r3 := x_r.keep hb2
    go_region_held3 (fun w' => w'.cell? ⟨w.heap.size, 0, none⟩ = some (.bool b) ∧ w'.cell? ⟨w.heap.size, 2, none⟩ = some (.int .i64 e))
      (first | exact ⟨x_a.c0, x_a.c2⟩ | exact ⟨x_a3.c0, x_a3.c2⟩ | exact ⟨x_a4.c0, x_a4.c2⟩ | exact ⟨(x_a4.asideD (by omega)).c0, (x_a4.asideD (by omega)).c2⟩ | go_keep)
      ((refine step_all64 (by rfl) _ _ (by rfl) v1.heap.size _ (by rfl) ho.drw A k c _ (l.take k) (by rfl) h3.drw (by omega) (by simp) ?_; intro A1 n1 c1 v9 g1 hb1; have x_a4 := x_a3.drew.below hb1 lt_a; have x_r4 := x_r3.drew.below hb1 lt_r; have q_a0 := x_a4.c0; have q_a2 := x_a4.c2; have q_r0 := x_r4.c0; have q_r1 := x_r4.c1; have q_r2 := x_r4.c2; have f_r0 := x_r4.fr 0; have f_r1 := x_r4.fr 1; have f_r2 := x_r4.fr 2))
    go_wp2
    have zz := x_r4.put b A1 n1 c1 e
    refine bodyPost_ret (v := .agg #[.bool b, .slice A1 n1 c1, .int .i64 e]) (by simp [results, Tryd.results10, go_sem, zz.c0, zz.c1, zz.c2]) rfl ?_
    exact ⟨_, _, _, rfl, g1.sputD x_r4, by have := g1.len; rw [List.length_take] at this; omega, put_belowD ((below_drew (bthen hb hb2)).trans (hb1.mono hb.size)) (by omega) _ _ _⟩
  · have hlt : ¬ (k : Int) < n := by omega
    rw [show l = l.take k from (List.take_of_length_le (by have := HLEN.out; omega)).symm] at h
    go_enter Tryd.func10, Tryd.ntmps10
    go_wp2_with fail
    have x_a : Dx (w.alloc (.cells #[.bool b, .slice A n c, .int .i64 e] 26)) (w.heap.size) b A n c e := by have := Dx.new w b A n c e; simpa using this
    replace x_a := x_a.alloc (.cells #[.bool false, .slice none 0 0, .int .i64 0] 26)
    have x_r : Dx ((w.alloc (.cells #[.bool b, .slice A n c, .int .i64 e] 26)).alloc (.cells #[.bool false, .slice none 0 0, .int .i64 0] 26)) (w.heap.size + 1) false none 0 0 0 := by have := Dx.new (w.alloc (.cells #[.bool b, .slice A n c, .int .i64 e] 26)) false none 0 0 0; simpa using this
    have hb : Below w.heap.size w ((w.alloc (.cells #[.bool b, .slice A n c, .int .i64 e] 26)).alloc (.cells #[.bool false, .slice none 0 0, .int .i64 0] 26)) := (Below.alloc (Below.alloc (Below.refl w.heap.size w) (by simp) (.cells #[.bool b, .slice A n c, .int .i64 e] 26)) (by simp) (.cells #[.bool false, .slice none 0 0, .int .i64 0] 26))
    generalize (w.alloc (.cells #[.bool b, .slice A n c, .int .i64 e] 26)).alloc (.cells #[.bool false, .slice none 0 0, .int .i64 0] 26) = v1 at *
    replace h := h.go hb
    have q_a0 := x_a.c0; have q_a1 := x_a.c1; have f_a0 := x_a.fr 0; have f_a1 := x_a.fr 1; have q_a2 := x_a.c2; have f_a2 := x_a.fr 2
    have q_r0 := x_r.c0; have q_r1 := x_r.c1; have f_r0 := x_r.fr 0; have f_r1 := x_r.fr 1; have q_r2 := x_r.c2; have f_r2 := x_r.fr 2
    go_wp2_with fail
    have ho := Ow.empty v1 v1.heap.size (Nat.le_refl _)
    have lt_a := x_a.lt; have lt_r := x_r.lt
    have hb2 := below_alloc v1 (.cells #[] 31)
    have h3 := h.go hb2
    have x_a3 := x_a.keep hb2; have x_r3 := x_r.keep hb2
    go_region_held3 (fun w' => w'.cell? ⟨w.heap.size, 0, none⟩ = some (.bool b) ∧ w'.cell? ⟨w.heap.size, 2, none⟩ = some (.int .i64 e))
      (first | exact ⟨x_a.c0, x_a.c2⟩ | exact ⟨x_a3.c0, x_a3.c2⟩ | exact ⟨x_a4.c0, x_a4.c2⟩ | exact ⟨(x_a4.asideD (by omega)).c0, (x_a4.asideD (by omega)).c2⟩ | go_keep)
      ((refine step_all64 (by rfl) _ _ (by rfl) v1.heap.size _ (by rfl) ho.drw A n c _ (l.take k) (by rfl) h3.drw (by omega) (by simp) ?_; intro A1 n1 c1 v9 g1 hb1; have x_a4 := x_a3.drew.below hb1 lt_a; have x_r4 := x_r3.drew.below hb1 lt_r; have q_a0 := x_a4.c0; have q_a2 := x_a4.c2; have q_r0 := x_r4.c0; have q_r1 := x_r4.c1; have q_r2 := x_r4.c2; have f_r0 := x_r4.fr 0; have f_r1 := x_r4.fr 1; have f_r2 := x_r4.fr 2))
    go_wp2
    have zz := x_r4.put b A1 n1 c1 e
    refine bodyPost_ret (v := .agg #[.bool b, .slice A1 n1 c1, .int .i64 e]) (by simp [results, Tryd.results10, go_sem, zz.c0, zz.c1, zz.c2]) rfl ?_
    exact ⟨_, _, _, rfl, g1.sputD x_r4, by have := g1.len; rw [List.length_take] at this; omega, put_belowD ((below_drew (bthen hb hb2)).trans (hb1.mono hb.size)) (by omega) _ _ _⟩

theorem Dcut_at {b : Bool} {A : Option Addr} {n c : Nat} {l : List Int} {e : Int} {w : World} (h : Rd w w.heap.size A n c l) (k : Nat) (K : Int) (hK : K = (k : Int)) (hk : k ≤ 1000) :
    Calls Tryd.prog 10 #[.agg #[.bool b, .slice A n c, .int .i64 e], .int .i64 K] w (DcPost w b l e k) := by
  subst hK; exact Dcut_any h k hk
end Go.Proofs.YtcoidcbbdibnaaaDoor
