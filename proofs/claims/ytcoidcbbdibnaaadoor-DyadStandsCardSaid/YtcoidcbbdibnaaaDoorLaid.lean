/-
  Numbers of one limb, just laid.
-/
import Derived.Test.YtcoidcbbdibnaaaDoorByte
namespace Go.Proofs.YtcoidcbbdibnaaaDoor
open Go.RowKit
set_option linter.unusedVariables false

theorem dg_lit1 {x : Nat} (hx : x < Wd) (h0 : 0 < x) : dg Wd x = [(x : Int)] := by
  have := dg_one (x := (x : Int)) ⟨by omega, by omega⟩
  rw [if_neg (by omega), Int.toNat_natCast] at this
  exact this
theorem dg_Wd : dg Wd (18446744073709551615 + 1) = [0, 1] := by
  have := dg_of Wd2 (l := [0, 1]) (fun y hy => by simp at hy; rw [Wd_eq]; rcases hy with rfl | rfl <;> omega) (fun y hy => by simp at hy; omega)
  have e : vl Wd [0, 1] = 18446744073709551615 + 1 := by
    show (0 : Int).toNat + Wd * ((1 : Int).toNat + Wd * 0) = _
    rw [Wd_eq]; rfl
  rw [e] at this
  exact this
/-- Two numbers of one limb, just laid. -/
theorem two_laid (w : World) (x y : Int) (hx : Lm x) (hy : Lm y) (t : TypeId) :
    Rd ((w.alloc (.cells #[.int .u64 x] t)).alloc (.cells #[.int .u64 y] t)) ((w.alloc (.cells #[.int .u64 x] t)).alloc (.cells #[.int .u64 y] t)).heap.size (some ⟨w.heap.size, 0, none⟩) 1 1 [x] ∧
    Rd ((w.alloc (.cells #[.int .u64 x] t)).alloc (.cells #[.int .u64 y] t)) ((w.alloc (.cells #[.int .u64 x] t)).alloc (.cells #[.int .u64 y] t)).heap.size (some ⟨w.heap.size + 1, 0, none⟩) 1 1 [y] :=
  ⟨(one_rd hx (by simp)).more (by simp), (one_rd hy (by simp)).more (by simp)⟩
theorem two_below (w : World) (o p : Obj) : Below w.heap.size w ((w.alloc o).alloc p) := ((Below.refl _ _).alloc (Nat.le_refl _) _).alloc (by simp) _
theorem vl_one (x : Int) : vl Wd [x] = x.toNat := by simp [vl]

theorem lm_small {x : Int} (h0 : 0 ≤ x) (h1 : x < 18446744073709551616) : Lm x := by unfold Lm; rw [Wd_eq]; omega

end Go.Proofs.YtcoidcbbdibnaaaDoor
