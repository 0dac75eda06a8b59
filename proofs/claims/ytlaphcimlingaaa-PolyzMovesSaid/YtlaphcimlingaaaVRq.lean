/-
  the document: Shift, Stretch.
-/
import Derived.Test.YtlaphcimlingaaaVRp
namespace Go.Proofs.Ytlaphcimlingaaa
open Go.RowKit
open MP.Se (nf co)
set_option linter.unusedVariables false
set_option maxRecDepth 100000

theorem Pd.two {v : World} {A A2 : Option Addr} {n c n2 c2 J : Nat} {b b2 : Bool} {X Y : Int} (z : Zr v b A n c X J) (z2 : Zr v b2 A2 n2 c2 Y J) :
    Pd (v.alloc (.cells #[.bool b, .slice A n c, .bool b2, .slice A2 n2 c2] 26)) (v.alloc (.cells #[.bool b, .slice A n c, .bool b2, .slice A2 n2 c2] 26)).heap.size (some ⟨v.heap.size, 0, none⟩) 2 2 [X, Y] J := by
  have hh : (v.alloc (.cells #[.bool b, .slice A n c, .bool b2, .slice A2 n2 c2] 26)).heap[v.heap.size]? = some (.cells #[.bool b, .slice A n c, .bool b2, .slice A2 n2 c2] 26 (0, 0)) := heap_alloc_new v _
  have key : ∀ i u, (#[Value.bool b, .slice A n c, .bool b2, .slice A2 n2 c2] : Array Value)[i]? = some u → (v.alloc (.cells #[.bool b, .slice A n c, .bool b2, .slice A2 n2 c2] 26)).cell? ⟨v.heap.size, i, none⟩ = some u := fun i u h => by
    rw [cell_of_row _ _ i _ _ (0, 0) hh]; exact h
  refine ⟨rfl, Nat.le_refl _, by omega, fun _ => ⟨v.heap.size, 0, rfl, by simp, fun k hk => ?_⟩⟩
  rcases (show k = 0 ∨ k = 1 by simp at hk; omega) with rfl | rfl
  · exact ⟨b, A, n, c, key 0 _ rfl, key 1 _ rfl, z.keep (below_alloc _ _)⟩
  · exact ⟨b2, A2, n2, c2, key 2 _ rfl, key 3 _ rfl, z2.keep (below_alloc _ _)⟩
theorem co_xa (a : Int) : co [a, 1] = MP.Se.xa a := by rw [MP.Se.co_cons, MP.Se.co_cons, MP.Se.co_nil, MP.Se.sh_zero, MP.Se.add_zero]; rfl
theorem co_xc (a : Int) : co [0, a] = MP.Se.xc a := by rw [MP.Se.co_cons, MP.Se.co_cons, MP.Se.co_nil, MP.Se.sh_zero, MP.Se.add_zero, MP.Se.zero_add]; rfl
theorem DoShift_any {A A2 : Option Addr} {n c n2 c2 J J2 : Nat} {b : Bool} {X : Int} {l : List Int} {w : World} (h : Pd w w.heap.size A n c l J) (z : Zr w b A2 n2 c2 X J2) (hJ2 : 1 ≤ J2) (hn : n ≤ 14) (hJ : J + 1 + 14 * (J2 + 16) ≤ 80000) :
    Calls Try.prog 13 #[.slice A n c, .agg #[.bool b, .slice A2 n2 c2]] w (OutN w (MP.Se.pu (co l) (MP.Se.xa X)) (J + 1 + n * (J2 + 16))) := by
  have hx := Lib.hid (co_xa X)
  replace h := h.pe
  go_enter Try.func13, Try.ntmps13
  go_upto_region 1 with fail
  refine al1 fun v1 hb x_x => ?_
  replace x_x := Bx.of x_x
  obtain ⟨h, z⟩ := mv2 hb h z
  have q_x := x_x.al
  go_region_held3 (fun w' => w'.cell? ⟨w.heap.size, 0, none⟩ = some (.bool b) ∧ w'.cell? ⟨w.heap.size, 1, none⟩ = some (.slice A2 n2 c2))
    (first | (with_reducible exact ⟨x_x.c0, x_x.c1⟩) | (with_reducible exact ⟨(x_x.alloc _).c0, (x_x.alloc _).c1⟩) | go_keep)
    (first | (go_at_call 23; (with_reducible refine (ROf_any 1 (by omega) (by omega)).mono ?_); rintro e v2 ⟨A3, n3, c3, rfl, z3, hb1⟩; replace hb1 := undrew hb1; obtain ⟨x_x, h, z, hb⟩ := mv4 hb1 x_x h z hb; clear hb1; replace q_x := x_x.al) | (go_at_call 41; (with_reducible refine (DoPut_any (h.pd.go (below_alloc _ _)) (Pd.two z (z3.zr.kto hJ2)) hn hJ).mono ?_); rintro e v4 ⟨L, A6, n6, c6, rfl, m6, hL, p6, hb1⟩; replace hb := bthen (bthen hb (below_alloc _ _)) hb1; replace x_x := (x_x.alloc _).keep hb1; clear hb1))
  all_goals go_wp2
  all_goals go_ret
  all_goals exact ⟨L, _, _, _, rfl, m6, by rw [hL, hx.out], p6, hb⟩
theorem DoStretch_any {A A2 : Option Addr} {n c n2 c2 J J2 : Nat} {b : Bool} {X : Int} {l : List Int} {w : World} (h : Pd w w.heap.size A n c l J) (z : Zr w b A2 n2 c2 X J2) (hn : n ≤ 14) (hJ : J + 1 + 14 * (J2 + 16) ≤ 80000) :
    Calls Try.prog 15 #[.slice A n c, .agg #[.bool b, .slice A2 n2 c2]] w (OutN w (MP.Se.pu (co l) (MP.Se.xc X)) (J + 1 + n * (J2 + 16))) := by
  have hx := Lib.hid (co_xc X)
  replace h := h.pe
  go_enter Try.func15, Try.ntmps15
  go_upto_region 1 with fail
  refine al1 fun v1 hb x_x => ?_
  replace x_x := Bx.of x_x
  obtain ⟨h, z⟩ := mv2 hb h z
  have q_x := x_x.al
  have z0 : Zr v1 false none 0 0 0 J2 := (Zn.zero v1 J2).zr
  go_wp2_with fail
  with_reducible refine (DoPut_any (h.pd.go (below_alloc _ _)) (Pd.two z0 z) hn hJ).mono ?_
  rintro e v4 ⟨L, A6, n6, c6, rfl, m6, hL, p6, hb1⟩
  replace hb := bthen (bthen hb (below_alloc _ _)) hb1
  clear hb1
  go_wp2
  go_ret
  exact ⟨L, _, _, _, rfl, m6, by rw [hL, hx.out], p6, hb⟩
end Go.Proofs.Ytlaphcimlingaaa
