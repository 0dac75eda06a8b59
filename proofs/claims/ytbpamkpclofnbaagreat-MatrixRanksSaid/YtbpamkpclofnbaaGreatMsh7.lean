/-
  matrix: the laws: shown's seventh region.
-/
import Derived.Test.YtbpamkpclofnbaaGreatMcof
import Derived.Test.YtbpamkpclofnbaaGreatMrsl
import Derived.Test.YtbpamkpclofnbaaGreatMcat
import Derived.Test.YtbpamkpclofnbaaGreatMadj
import Derived.Test.YtbpamkpclofnbaaGreatVqr
import Derived.Test.YtbpamkpclofnbaaGreatMclo
import Derived.Test.YtbpamkpclofnbaaGreatMmul2
namespace Go.Proofs.YtbpamkpclofnbaaGreat
open Go.RowKit
open MP.Se (nf co)
set_option linter.unusedVariables false
set_option maxRecDepth 100000

theorem of_at {g n : Nat} {xs : List Int} {t : TypeId} {w : World} (h : w.heap[g]? = some (.cells (xs.map (Value.int .i64)).toArray t (0, 0))) : ∀ k (hk : k < xs.length), w.cell? ⟨g, k, none⟩ = some (.int .i64 xs[k]) := fun k hk => by
  rw [cell_of_row w g k _ _ (0, 0) h]; simp [hk]
theorem Lof_at {g n cols N : Nat} (xs : List Int) (M : List (List Int)) {t : TypeId} {w : World} (h : w.heap[g]? = some (.cells (xs.map (Value.int .i64)).toArray t (0, 0))) (hl : xs.length = n) (hn : n ≤ 100) (hN : N * cols = n) (hc : 1 ≤ cols) (hbd : ∀ x ∈ xs, -9223372036854775808 ≤ x ∧ x ≤ 9223372036854775807) (hM : ((List.range N).map fun k => rowL cols k xs) = M) :
    Calls Tryz.prog 80 #[.int .i64 (cols : Int), .slice (some ⟨g, 0, none⟩) n n] w fun e w' => ∃ A c, e = .returned (.slice A N c) ∧ Mn w' A N c M 1 ∧ Below w.heap.size w w' := by
  rw [← hM]
  exact Lof_any (of_at (n := n) h) (Array.getElem?_eq_some_iff.1 h).1 hl hn hN hc hbd
theorem rt_a : Rt [[1, 2], [3, 4]] 2 2 := ⟨rfl, by omega, by omega, fun k hk => by
  have : k < 2 := hk
  rcases (show k = 0 ∨ k = 1 by omega) with rfl | rfl <;> rfl⟩
theorem rt_b : Rt [[1, 2], [2, 4]] 2 2 := ⟨rfl, by omega, by omega, fun k hk => by
  have : k < 2 := hk
  rcases (show k = 0 ∨ k = 1 by omega) with rfl | rfl <;> rfl⟩
theorem rk_1 : MD.Rk (mx [[1, 2], [2, 4]]) 2 2 1 := ⟨⟨id, id, fun i hi => by simp; omega, fun i hi => by simp; omega, by decide +kernel⟩, ⟨1, fun i _ => (i : Int) + 1, fun _ k => (k : Int) + 1, by decide, fun i k hi hk => by
  rcases (show i = 0 ∨ i = 1 by omega) with rfl | rfl <;> rcases (show k = 0 ∨ k = 1 by omega) with rfl | rfl <;> decide +kernel⟩⟩
theorem rk_b {m s : Nat} (h : Rt [[1, 2], [2, 4]] 2 m) (h2 : MD.Rk (mx [[1, 2], [2, 4]]) 2 m s) : s = 1 := by
  obtain ⟨_, rfl⟩ := h.uni rt_b
  exact h2.one rk_1
theorem adj_a : mo2 (adjF (2 - 1) (mx [[1, 2], [3, 4]])) 2 2 = [[4, -2], [-3, 1]] := by decide +kernel
theorem drwh {w : World} {g : Nat} {o : Obj} (h : w.heap[g]? = some o) : w.drew.heap[g]? = some o := h
theorem sy_is : mo2 (syF [1, 2] [3, 0, 1] ((nf [1, 2]).length - 1) ((nf [3, 0, 1]).length - 1)) ((nf [1, 2]).length - 1 + ((nf [3, 0, 1]).length - 1)) ((nf [1, 2]).length - 1 + ((nf [3, 0, 1]).length - 1)) = [[2, 1, 0], [0, 2, 1], [1, 0, 3]] := by decide +kernel
theorem sy_no (h : nf [1, 2] = [] ∨ nf [3, 0, 1] = [] ∨ (nf [1, 2]).length - 1 + ((nf [3, 0, 1]).length - 1) = 0) : False := by revert h; decide +kernel
/-- What Sylvester has made. -/
def SyN (v : World) (s t : Value) (wx : World) : Prop := ∃ A c, s = .slice A 3 c ∧ t = .int .i64 0 ∧ Mn wx A 3 c [[2, 1, 0], [0, 2, 1], [1, 0, 3]] 1 ∧ Below v.heap.size v wx
theorem at_al {w : World} {o : Obj} {g : Nat} (h : w.heap.size = g) : (w.alloc o).heap[g]? = some o := by subst h; exact heap_alloc_new w o
theorem up_al {w : World} {o p : Obj} {g : Nat} (h : w.heap[g]? = some p) : (w.alloc o).heap[g]? = some p := (Below.heap_alloc w o g (Array.getElem?_eq_some_iff.1 h).1).trans h
theorem keepB {w v : World} {g : Nat} {o : Obj} (hb : Below w.heap.size w v) (h : w.heap[g]? = some o) : v.heap[g]? = some o := (hb.block g (Array.getElem?_eq_some_iff.1 h).1).trans h
theorem bA {W v : World} {o : Obj} (h : Below W.heap.size W v) : Below W.heap.size W (v.alloc o) := bthen h (below_alloc _ _)
theorem rsl_13 : rslZ [1, 2] [3, 0, 1] = 13 := by decide +kernel
theorem det_a : MD.det 2 (mx [[1, 2], [3, 4]]) = -2 := by decide +kernel
theorem R7hp (w1 : World) (g1 : Nat) (h : w1.heap[g1]? = some (.cells #[.int .i64 1, .int .i64 2] 2)) : Calls Tryz.prog 80 #[.int .i64 2, .slice (some ⟨g1, 0, none⟩) 2 2] w1 fun e w2 => ∃ A c, e = .returned (.slice A 1 c) ∧ Mn w2 A 1 c [[1, 2]] 1 ∧ Below w1.heap.size w1 w2 := Lof_at (n := 2) (cols := 2) (N := 1) [1, 2] [[1, 2]] h rfl (by omega) rfl (by omega) (by decide) rfl
theorem R7hq (w1 : World) (g1 : Nat) (h : w1.heap[g1]? = some (.cells #[.int .i64 3, .int .i64 0, .int .i64 1] 2)) : Calls Tryz.prog 80 #[.int .i64 3, .slice (some ⟨g1, 0, none⟩) 3 3] w1 fun e w2 => ∃ A c, e = .returned (.slice A 1 c) ∧ Mn w2 A 1 c [[3, 0, 1]] 1 ∧ Below w1.heap.size w1 w2 := Lof_at (n := 3) (cols := 3) (N := 1) [3, 0, 1] [[3, 0, 1]] h rfl (by omega) rfl (by omega) (by decide) rfl
abbrev R7o : Array Oper := #[({ dst := some 54, op := Op.buildSlice 95 2 #[(0, Operand.const (Value.int IntKind.i64 1)), (1, Operand.const (Value.int IntKind.i64 2))], type := 95, pos := "law.go:36", after := #[], guard := none } : Oper), ({ dst := some 55, op := Op.call { callee := Callee.value (Operand.func 80), args := #[Operand.const (Value.int IntKind.i64 2), Operand.tmp 54], argTypes := #[3, 95] }, type := 35, pos := "law.go:36", after := #[{ on := 0, ground := Ground.data }], guard := none } : Oper), ({ dst := some 56, op := Op.indexAddr 35 (Operand.tmp 55) (Operand.const (Value.int IntKind.i64 0)), type := 0, pos := "law.go:36", after := #[{ on := 1, ground := Ground.data }], guard := none } : Oper), ({ dst := some 57, op := Op.load 22 (Operand.tmp 56), type := 22, pos := "law.go:36", after := #[{ on := 2, ground := Ground.data }], guard := none } : Oper), ({ dst := some 58, op := Op.buildSlice 95 3 #[(0, Operand.const (Value.int IntKind.i64 3)), (1, Operand.const (Value.int IntKind.i64 0)), (2, Operand.const (Value.int IntKind.i64 1))], type := 95, pos := "law.go:36", after := #[], guard := none } : Oper), ({ dst := some 59, op := Op.call { callee := Callee.value (Operand.func 80), args := #[Operand.const (Value.int IntKind.i64 3), Operand.tmp 58], argTypes := #[3, 95] }, type := 35, pos := "law.go:36", after := #[{ on := 4, ground := Ground.data }, { on := 1, ground := Ground.chain }], guard := none } : Oper), ({ dst := some 60, op := Op.indexAddr 35 (Operand.tmp 59) (Operand.const (Value.int IntKind.i64 0)), type := 0, pos := "law.go:36", after := #[{ on := 5, ground := Ground.data }], guard := none } : Oper), ({ dst := some 61, op := Op.load 22 (Operand.tmp 60), type := 22, pos := "law.go:36", after := #[{ on := 6, ground := Ground.data }], guard := none } : Oper), ({ dst := some 62, op := Op.call { callee := Callee.value (Operand.func 47), args := #[Operand.tmp 57, Operand.tmp 61], argTypes := #[23, 23] }, type := 30, pos := "law.go:36", after := #[{ on := 3, ground := Ground.data }, { on := 7, ground := Ground.data }, { on := 5, ground := Ground.chain }], guard := none } : Oper), ({ dst := some 13, op := Op.alloc 30, type := 0, pos := "law.go:36", after := #[], guard := none } : Oper), ({ dst := none, op := Op.store 30 (Operand.tmp 13) (Operand.tmp 62), type := 0, pos := "law.go:36", after := #[{ on := 9, ground := Ground.data }, { on := 8, ground := Ground.data }, { on := 8, ground := Ground.chain }, { on := 0, ground := Ground.phase }, { on := 1, ground := Ground.phase }, { on := 2, ground := Ground.phase }, { on := 3, ground := Ground.phase }, { on := 4, ground := Ground.phase }, { on := 5, ground := Ground.phase }, { on := 6, ground := Ground.phase }, { on := 7, ground := Ground.phase }, { on := 8, ground := Ground.phase }, { on := 9, ground := Ground.phase }], guard := none } : Oper)]
set_option maxHeartbeats 200000000 in
theorem R7 {Q : Exit → Act → World → Prop} {w0 : World} {t0 t1 t2 t3 t4 t5 t6 t7 t8 t9 t10 t11 t12 t13 t14 t15 t16 t17 t18 t19 t20 t21 t22 t23 t24 t25 t26 t27 t28 t29 t30 t31 t32 t33 t34 t35 t36 t37 t38 t39 t40 t41 t42 t43 t44 t45 t46 t47 t48 t49 t50 t51 t52 t53 t54 t55 t56 t57 t58 t59 t60 t61 t62 t63 t64 t65 t66 t67 t68 t69 t70 t71 t72 t73 t74 t75 t76 t77 t78 t79 t80 t81 t82 t83 t84 t85 t86 t87 t88 t89 t90 t91 t92 t93 t94 t95 t96 t97 t98 t99 t100 t101 t102 t103 t104 t105 t106 t107 t108 t109 t110 t111 t112 t113 t114 t115 t116 t117 t118 t119 t120 t121 : Value} (hQ : ∀ (x54 x55 x56 x57 x58 x59 x60 x61 x62 s : Value) (w' : World), BnNew1 w0 13 361 s w' → Q .normal { tmps := #[t0, t1, t2, t3, t4, t5, t6, t7, t8, t9, t10, t11, t12, s, t14, t15, t16, t17, t18, t19, t20, t21, t22, t23, t24, t25, t26, t27, t28, t29, t30, t31, t32, t33, t34, t35, t36, t37, t38, t39, t40, t41, t42, t43, t44, t45, t46, t47, t48, t49, t50, t51, t52, t53, x54, x55, x56, x57, x58, x59, x60, x61, x62, t63, t64, t65, t66, t67, t68, t69, t70, t71, t72, t73, t74, t75, t76, t77, t78, t79, t80, t81, t82, t83, t84, t85, t86, t87, t88, t89, t90, t91, t92, t93, t94, t95, t96, t97, t98, t99, t100, t101, t102, t103, t104, t105, t106, t107, t108, t109, t110, t111, t112, t113, t114, t115, t116, t117, t118, t119, t120, t121], defers := [] } w') :
    wpAnyH Tryz.prog .any R7o Q (fun _ => True) 11 (Array.replicate 11 false) { tmps := #[t0, t1, t2, t3, t4, t5, t6, t7, t8, t9, t10, t11, t12, t13, t14, t15, t16, t17, t18, t19, t20, t21, t22, t23, t24, t25, t26, t27, t28, t29, t30, t31, t32, t33, t34, t35, t36, t37, t38, t39, t40, t41, t42, t43, t44, t45, t46, t47, t48, t49, t50, t51, t52, t53, t54, t55, t56, t57, t58, t59, t60, t61, t62, t63, t64, t65, t66, t67, t68, t69, t70, t71, t72, t73, t74, t75, t76, t77, t78, t79, t80, t81, t82, t83, t84, t85, t86, t87, t88, t89, t90, t91, t92, t93, t94, t95, t96, t97, t98, t99, t100, t101, t102, t103, t104, t105, t106, t107, t108, t109, t110, t111, t112, t113, t114, t115, t116, t117, t118, t119, t120, t121], defers := [] } w0.drew := by
  have Hp := Lib.hid R7hp; have Hq := Lib.hid R7hq
  have K4411 : ∀ (w : World) (hv : Below w0.heap.size w0 w) (x54 : Value) (x55 : Value) (x56 : Value) (kp : Nat) (Bp : Option Addr) (x58 : Value) (x59 : Value) (x60 : Value) (kq : Nat) (Bq : Option Addr) (nr cr : Nat) (Ar : Option Addr) (zr : Zn w Ar nr cr 13 361) (gr : Nat) (xr : w.heap[gr]? = some (.cells #[.bool false, .slice none 0 0] 30)) (hg : w0.heap.size ≤ gr), wpAnyH Tryz.prog .any R7o Q (fun _ => True) 1 #[true, true, true, true, true, true, true, true, true, true, false] { tmps := #[t0, t1, t2, t3, t4, t5, t6, t7, t8, t9, t10, t11, t12, .pointer (some ⟨gr, 0, none⟩), t14, t15, t16, t17, t18, t19, t20, t21, t22, t23, t24, t25, t26, t27, t28, t29, t30, t31, t32, t33, t34, t35, t36, t37, t38, t39, t40, t41, t42, t43, t44, t45, t46, t47, t48, t49, t50, t51, t52, t53, x54, x55, x56, .slice Bp 2 kp, x58, x59, x60, .slice Bq 3 kq, .agg #[.bool (ngB 13), .slice Ar nr cr], t63, t64, t65, t66, t67, t68, t69, t70, t71, t72, t73, t74, t75, t76, t77, t78, t79, t80, t81, t82, t83, t84, t85, t86, t87, t88, t89, t90, t91, t92, t93, t94, t95, t96, t97, t98, t99, t100, t101, t102, t103, t104, t105, t106, t107, t108, t109, t110, t111, t112, t113, t114, t115, t116, t117, t118, t119, t120, t121], defers := [] } w := by
    intro w hv x54 x55 x56 kp Bp x58 x59 x60 kq Bq nr cr Ar zr gr xr hg
    refine wpAnyH_ready (rs := [10]) (by kernel_rfl) (by simp) ?_
    refine (AllReadyH.cons (o := ({ dst := none, op := Op.store 30 (Operand.tmp 13) (Operand.tmp 62), type := 0, pos := "law.go:36", after := #[{ on := 9, ground := Ground.data }, { on := 8, ground := Ground.data }, { on := 8, ground := Ground.chain }, { on := 0, ground := Ground.phase }, { on := 1, ground := Ground.phase }, { on := 2, ground := Ground.phase }, { on := 3, ground := Ground.phase }, { on := 4, ground := Ground.phase }, { on := 5, ground := Ground.phase }, { on := 6, ground := Ground.phase }, { on := 7, ground := Ground.phase }, { on := 8, ground := Ground.phase }, { on := 9, ground := Ground.phase }], guard := none } : Oper)) rfl (fun K hK => ?_) AllReadyH.nil)
    · skip
      replace xr := Bx.of xr
      have q_r := xr.al
      go_simp
      refine hK.out _ _ trivial (fun _ => ?_)
      clear hK K
      (try simp only [List.setIfInBounds_toArray, List.set_cons_zero, List.set_cons_succ])
      refine wpAnyH_done (by kernel_rfl) ?_ _
      exact hQ _ _ _ _ _ _ _ _ _ _ _ (BnNew1.put hv xr hg zr)
  have K4410 : ∀ (w : World) (hv : Below w0.heap.size w0 w) (x54 : Value) (x55 : Value) (x56 : Value) (kp : Nat) (Bp : Option Addr) (x58 : Value) (x59 : Value) (x60 : Value) (kq : Nat) (Bq : Option Addr) (nr cr : Nat) (Ar : Option Addr) (zr : Zn w Ar nr cr 13 361) (x13 : Value), wpAnyH Tryz.prog .any R7o Q (fun _ => True) 2 #[true, true, true, true, true, true, true, true, true, false, false] { tmps := #[t0, t1, t2, t3, t4, t5, t6, t7, t8, t9, t10, t11, t12, x13, t14, t15, t16, t17, t18, t19, t20, t21, t22, t23, t24, t25, t26, t27, t28, t29, t30, t31, t32, t33, t34, t35, t36, t37, t38, t39, t40, t41, t42, t43, t44, t45, t46, t47, t48, t49, t50, t51, t52, t53, x54, x55, x56, .slice Bp 2 kp, x58, x59, x60, .slice Bq 3 kq, .agg #[.bool (ngB 13), .slice Ar nr cr], t63, t64, t65, t66, t67, t68, t69, t70, t71, t72, t73, t74, t75, t76, t77, t78, t79, t80, t81, t82, t83, t84, t85, t86, t87, t88, t89, t90, t91, t92, t93, t94, t95, t96, t97, t98, t99, t100, t101, t102, t103, t104, t105, t106, t107, t108, t109, t110, t111, t112, t113, t114, t115, t116, t117, t118, t119, t120, t121], defers := [] } w := by
    intro w hv x54 x55 x56 kp Bp x58 x59 x60 kq Bq nr cr Ar zr x13
    refine wpAnyH_ready (rs := [9]) (by kernel_rfl) (by simp) ?_
    refine (AllReadyH.cons (o := ({ dst := some 13, op := Op.alloc 30, type := 0, pos := "law.go:36", after := #[], guard := none } : Oper)) rfl (fun K hK => ?_) AllReadyH.nil)
    · skip
      go_simp
      refine hK.out _ _ trivial (fun _ => ?_)
      clear hK K
      (try simp only [List.setIfInBounds_toArray, List.set_cons_zero, List.set_cons_succ])
      exact K4411 _ (bA hv) _ _ _ _ _ _ _ _ _ _ _ _ _ (zr.keep (below_alloc _ _)) _ (heap_alloc_new _ _) hv.size
  have K4401 : ∀ (w : World) (hv : Below w0.heap.size w0 w) (x54 : Value) (x55 : Value) (x56 : Value) (kp : Nat) (Bp : Option Addr) (p : Pn w Bp 2 kp [1, 2] 1) (x58 : Value) (x59 : Value) (x60 : Value) (kq : Nat) (Bq : Option Addr) (q : Pn w Bq 3 kq [3, 0, 1] 1) (x62 : Value) (gr : Nat) (xr : w.heap[gr]? = some (.cells #[.bool false, .slice none 0 0] 30)) (hg : w0.heap.size ≤ gr), wpAnyH Tryz.prog .any R7o Q (fun _ => True) 2 #[true, true, true, true, true, true, true, true, false, true, false] { tmps := #[t0, t1, t2, t3, t4, t5, t6, t7, t8, t9, t10, t11, t12, .pointer (some ⟨gr, 0, none⟩), t14, t15, t16, t17, t18, t19, t20, t21, t22, t23, t24, t25, t26, t27, t28, t29, t30, t31, t32, t33, t34, t35, t36, t37, t38, t39, t40, t41, t42, t43, t44, t45, t46, t47, t48, t49, t50, t51, t52, t53, x54, x55, x56, .slice Bp 2 kp, x58, x59, x60, .slice Bq 3 kq, x62, t63, t64, t65, t66, t67, t68, t69, t70, t71, t72, t73, t74, t75, t76, t77, t78, t79, t80, t81, t82, t83, t84, t85, t86, t87, t88, t89, t90, t91, t92, t93, t94, t95, t96, t97, t98, t99, t100, t101, t102, t103, t104, t105, t106, t107, t108, t109, t110, t111, t112, t113, t114, t115, t116, t117, t118, t119, t120, t121], defers := [] } w := by
    intro w hv x54 x55 x56 kp Bp p x58 x59 x60 kq Bq q x62 gr xr hg
    refine wpAnyH_ready (rs := [8]) (by kernel_rfl) (by simp) ?_
    refine (AllReadyH.cons (o := ({ dst := some 62, op := Op.call { callee := Callee.value (Operand.func 47), args := #[Operand.tmp 57, Operand.tmp 61], argTypes := #[23, 23] }, type := 30, pos := "law.go:36", after := #[{ on := 3, ground := Ground.data }, { on := 7, ground := Ground.data }, { on := 5, ground := Ground.chain }], guard := none } : Oper)) rfl (fun K hK => ?_) AllReadyH.nil)
    · skip
      go_simp
      with_reducible refine (MResultant_is (J := 1) (D := 5) (B := 10) p.pd q.pd (by omega) (by omega) (by omega) (by omega) (by omega)).mono ?_
      rintro e v ⟨Ar, nr, cr, rfl, zr, hb2⟩
      rw [rsl_13] at zr ⊢
      replace zr := zr.wide (show 30 * (10 + 2) + 1 ≤ 361 from Nat.le_refl _)
      (try go_wp2_with fail)
      refine hK.out _ _ trivial (fun _ => ?_)
      clear hK K
      (try simp only [List.setIfInBounds_toArray, List.set_cons_zero, List.set_cons_succ])
      exact K4411 _ (bthen hv hb2) _ _ _ _ _ _ _ _ _ _ _ _ _ zr _ (keepB hb2 xr) hg
  have K4301 : ∀ (w : World) (hv : Below w0.heap.size w0 w) (x54 : Value) (x55 : Value) (x56 : Value) (kp : Nat) (Bp : Option Addr) (p : Pn w Bp 2 kp [1, 2] 1) (x58 : Value) (x59 : Value) (dq oq kq : Nat) (Bq : Option Addr) (x61 : Value) (yq : w.cell? ⟨dq, oq, none⟩ = some (.slice Bq 3 kq)) (q : Pn w Bq 3 kq [3, 0, 1] 1) (lq : dq < w.heap.size) (x62 : Value) (gr : Nat) (xr : w.heap[gr]? = some (.cells #[.bool false, .slice none 0 0] 30)) (hg : w0.heap.size ≤ gr), wpAnyH Tryz.prog .any R7o Q (fun _ => True) 3 #[true, true, true, true, true, true, true, false, false, true, false] { tmps := #[t0, t1, t2, t3, t4, t5, t6, t7, t8, t9, t10, t11, t12, .pointer (some ⟨gr, 0, none⟩), t14, t15, t16, t17, t18, t19, t20, t21, t22, t23, t24, t25, t26, t27, t28, t29, t30, t31, t32, t33, t34, t35, t36, t37, t38, t39, t40, t41, t42, t43, t44, t45, t46, t47, t48, t49, t50, t51, t52, t53, x54, x55, x56, .slice Bp 2 kp, x58, x59, .pointer (some ⟨dq, oq, none⟩), x61, x62, t63, t64, t65, t66, t67, t68, t69, t70, t71, t72, t73, t74, t75, t76, t77, t78, t79, t80, t81, t82, t83, t84, t85, t86, t87, t88, t89, t90, t91, t92, t93, t94, t95, t96, t97, t98, t99, t100, t101, t102, t103, t104, t105, t106, t107, t108, t109, t110, t111, t112, t113, t114, t115, t116, t117, t118, t119, t120, t121], defers := [] } w := by
    intro w hv x54 x55 x56 kp Bp p x58 x59 dq oq kq Bq x61 yq q lq x62 gr xr hg
    refine wpAnyH_ready (rs := [7]) (by kernel_rfl) (by simp) ?_
    refine (AllReadyH.cons (o := ({ dst := some 61, op := Op.load 22 (Operand.tmp 60), type := 22, pos := "law.go:36", after := #[{ on := 6, ground := Ground.data }], guard := none } : Oper)) rfl (fun K hK => ?_) AllReadyH.nil)
    · skip
      go_simp
      refine hK.out _ _ trivial (fun _ => ?_)
      clear hK K
      (try simp only [List.setIfInBounds_toArray, List.set_cons_zero, List.set_cons_succ])
      exact K4401 _ hv _ _ _ _ _ p _ _ _ _ _ q _ _ xr hg
  have K3401 : ∀ (w : World) (hv : Below w0.heap.size w0 w) (x54 : Value) (x55 : Value) (dp op kp : Nat) (Bp : Option Addr) (x57 : Value) (yp : w.cell? ⟨dp, op, none⟩ = some (.slice Bp 2 kp)) (p : Pn w Bp 2 kp [1, 2] 1) (lp : dp < w.heap.size) (x58 : Value) (x59 : Value) (x60 : Value) (kq : Nat) (Bq : Option Addr) (q : Pn w Bq 3 kq [3, 0, 1] 1) (x62 : Value) (gr : Nat) (xr : w.heap[gr]? = some (.cells #[.bool false, .slice none 0 0] 30)) (hg : w0.heap.size ≤ gr), wpAnyH Tryz.prog .any R7o Q (fun _ => True) 3 #[true, true, true, false, true, true, true, true, false, true, false] { tmps := #[t0, t1, t2, t3, t4, t5, t6, t7, t8, t9, t10, t11, t12, .pointer (some ⟨gr, 0, none⟩), t14, t15, t16, t17, t18, t19, t20, t21, t22, t23, t24, t25, t26, t27, t28, t29, t30, t31, t32, t33, t34, t35, t36, t37, t38, t39, t40, t41, t42, t43, t44, t45, t46, t47, t48, t49, t50, t51, t52, t53, x54, x55, .pointer (some ⟨dp, op, none⟩), x57, x58, x59, x60, .slice Bq 3 kq, x62, t63, t64, t65, t66, t67, t68, t69, t70, t71, t72, t73, t74, t75, t76, t77, t78, t79, t80, t81, t82, t83, t84, t85, t86, t87, t88, t89, t90, t91, t92, t93, t94, t95, t96, t97, t98, t99, t100, t101, t102, t103, t104, t105, t106, t107, t108, t109, t110, t111, t112, t113, t114, t115, t116, t117, t118, t119, t120, t121], defers := [] } w := by
    intro w hv x54 x55 dp op kp Bp x57 yp p lp x58 x59 x60 kq Bq q x62 gr xr hg
    refine wpAnyH_ready (rs := [3]) (by kernel_rfl) (by simp) ?_
    refine (AllReadyH.cons (o := ({ dst := some 57, op := Op.load 22 (Operand.tmp 56), type := 22, pos := "law.go:36", after := #[{ on := 2, ground := Ground.data }], guard := none } : Oper)) rfl (fun K hK => ?_) AllReadyH.nil)
    · skip
      go_simp
      refine hK.out _ _ trivial (fun _ => ?_)
      clear hK K
      (try simp only [List.setIfInBounds_toArray, List.set_cons_zero, List.set_cons_succ])
      exact K4401 _ hv _ _ _ _ _ p _ _ _ _ _ q _ _ xr hg
  have K4400 : ∀ (w : World) (hv : Below w0.heap.size w0 w) (x54 : Value) (x55 : Value) (x56 : Value) (kp : Nat) (Bp : Option Addr) (p : Pn w Bp 2 kp [1, 2] 1) (x58 : Value) (x59 : Value) (x60 : Value) (kq : Nat) (Bq : Option Addr) (q : Pn w Bq 3 kq [3, 0, 1] 1) (x62 : Value) (x13 : Value), wpAnyH Tryz.prog .any R7o Q (fun _ => True) 3 #[true, true, true, true, true, true, true, true, false, false, false] { tmps := #[t0, t1, t2, t3, t4, t5, t6, t7, t8, t9, t10, t11, t12, x13, t14, t15, t16, t17, t18, t19, t20, t21, t22, t23, t24, t25, t26, t27, t28, t29, t30, t31, t32, t33, t34, t35, t36, t37, t38, t39, t40, t41, t42, t43, t44, t45, t46, t47, t48, t49, t50, t51, t52, t53, x54, x55, x56, .slice Bp 2 kp, x58, x59, x60, .slice Bq 3 kq, x62, t63, t64, t65, t66, t67, t68, t69, t70, t71, t72, t73, t74, t75, t76, t77, t78, t79, t80, t81, t82, t83, t84, t85, t86, t87, t88, t89, t90, t91, t92, t93, t94, t95, t96, t97, t98, t99, t100, t101, t102, t103, t104, t105, t106, t107, t108, t109, t110, t111, t112, t113, t114, t115, t116, t117, t118, t119, t120, t121], defers := [] } w := by
    intro w hv x54 x55 x56 kp Bp p x58 x59 x60 kq Bq q x62 x13
    refine wpAnyH_ready (rs := [8, 9]) (by kernel_rfl) (by simp) ?_
    refine (AllReadyH.cons (o := ({ dst := some 62, op := Op.call { callee := Callee.value (Operand.func 47), args := #[Operand.tmp 57, Operand.tmp 61], argTypes := #[23, 23] }, type := 30, pos := "law.go:36", after := #[{ on := 3, ground := Ground.data }, { on := 7, ground := Ground.data }, { on := 5, ground := Ground.chain }], guard := none } : Oper)) rfl (fun K hK => ?_) (AllReadyH.cons (o := ({ dst := some 13, op := Op.alloc 30, type := 0, pos := "law.go:36", after := #[], guard := none } : Oper)) rfl (fun K hK => ?_) AllReadyH.nil))
    · skip
      go_simp
      with_reducible refine (MResultant_is (J := 1) (D := 5) (B := 10) p.pd q.pd (by omega) (by omega) (by omega) (by omega) (by omega)).mono ?_
      rintro e v ⟨Ar, nr, cr, rfl, zr, hb2⟩
      rw [rsl_13] at zr ⊢
      replace zr := zr.wide (show 30 * (10 + 2) + 1 ≤ 361 from Nat.le_refl _)
      (try go_wp2_with fail)
      refine hK.out _ _ trivial (fun _ => ?_)
      clear hK K
      (try simp only [List.setIfInBounds_toArray, List.set_cons_zero, List.set_cons_succ])
      exact K4410 _ (bthen hv hb2) _ _ _ _ _ _ _ _ _ _ _ _ _ zr _
    · skip
      go_simp
      refine hK.out _ _ trivial (fun _ => ?_)
      clear hK K
      (try simp only [List.setIfInBounds_toArray, List.set_cons_zero, List.set_cons_succ])
      exact K4401 _ (bA hv) _ _ _ _ _ (p.keep (below_alloc _ _)) _ _ _ _ _ (q.keep (below_alloc _ _)) _ _ (heap_alloc_new _ _) hv.size
  have K4201 : ∀ (w : World) (hv : Below w0.heap.size w0 w) (x54 : Value) (x55 : Value) (x56 : Value) (kp : Nat) (Bp : Option Addr) (p : Pn w Bp 2 kp [1, 2] 1) (x58 : Value) (dq oq kq : Nat) (Bq : Option Addr) (cq : Nat) (x60 : Value) (x61 : Value) (yq : w.cell? ⟨dq, oq, none⟩ = some (.slice Bq 3 kq)) (q : Pn w Bq 3 kq [3, 0, 1] 1) (lq : dq < w.heap.size) (x62 : Value) (gr : Nat) (xr : w.heap[gr]? = some (.cells #[.bool false, .slice none 0 0] 30)) (hg : w0.heap.size ≤ gr), wpAnyH Tryz.prog .any R7o Q (fun _ => True) 4 #[true, true, true, true, true, true, false, false, false, true, false] { tmps := #[t0, t1, t2, t3, t4, t5, t6, t7, t8, t9, t10, t11, t12, .pointer (some ⟨gr, 0, none⟩), t14, t15, t16, t17, t18, t19, t20, t21, t22, t23, t24, t25, t26, t27, t28, t29, t30, t31, t32, t33, t34, t35, t36, t37, t38, t39, t40, t41, t42, t43, t44, t45, t46, t47, t48, t49, t50, t51, t52, t53, x54, x55, x56, .slice Bp 2 kp, x58, .slice (some ⟨dq, oq, none⟩) 1 cq, x60, x61, x62, t63, t64, t65, t66, t67, t68, t69, t70, t71, t72, t73, t74, t75, t76, t77, t78, t79, t80, t81, t82, t83, t84, t85, t86, t87, t88, t89, t90, t91, t92, t93, t94, t95, t96, t97, t98, t99, t100, t101, t102, t103, t104, t105, t106, t107, t108, t109, t110, t111, t112, t113, t114, t115, t116, t117, t118, t119, t120, t121], defers := [] } w := by
    intro w hv x54 x55 x56 kp Bp p x58 dq oq kq Bq cq x60 x61 yq q lq x62 gr xr hg
    refine wpAnyH_ready (rs := [6]) (by kernel_rfl) (by simp) ?_
    refine (AllReadyH.cons (o := ({ dst := some 60, op := Op.indexAddr 35 (Operand.tmp 59) (Operand.const (Value.int IntKind.i64 0)), type := 0, pos := "law.go:36", after := #[{ on := 5, ground := Ground.data }], guard := none } : Oper)) rfl (fun K hK => ?_) AllReadyH.nil)
    · skip
      go_simp
      refine hK.out _ _ trivial (fun _ => ?_)
      clear hK K
      (try simp only [List.setIfInBounds_toArray, List.set_cons_zero, List.set_cons_succ])
      exact K4301 _ hv _ _ _ _ _ p _ _ _ _ _ _ _ yq q lq _ _ xr hg
  have K3301 : ∀ (w : World) (hv : Below w0.heap.size w0 w) (x54 : Value) (x55 : Value) (dp op kp : Nat) (Bp : Option Addr) (x57 : Value) (yp : w.cell? ⟨dp, op, none⟩ = some (.slice Bp 2 kp)) (p : Pn w Bp 2 kp [1, 2] 1) (lp : dp < w.heap.size) (x58 : Value) (x59 : Value) (dq oq kq : Nat) (Bq : Option Addr) (x61 : Value) (yq : w.cell? ⟨dq, oq, none⟩ = some (.slice Bq 3 kq)) (q : Pn w Bq 3 kq [3, 0, 1] 1) (lq : dq < w.heap.size) (x62 : Value) (gr : Nat) (xr : w.heap[gr]? = some (.cells #[.bool false, .slice none 0 0] 30)) (hg : w0.heap.size ≤ gr), wpAnyH Tryz.prog .any R7o Q (fun _ => True) 4 #[true, true, true, false, true, true, true, false, false, true, false] { tmps := #[t0, t1, t2, t3, t4, t5, t6, t7, t8, t9, t10, t11, t12, .pointer (some ⟨gr, 0, none⟩), t14, t15, t16, t17, t18, t19, t20, t21, t22, t23, t24, t25, t26, t27, t28, t29, t30, t31, t32, t33, t34, t35, t36, t37, t38, t39, t40, t41, t42, t43, t44, t45, t46, t47, t48, t49, t50, t51, t52, t53, x54, x55, .pointer (some ⟨dp, op, none⟩), x57, x58, x59, .pointer (some ⟨dq, oq, none⟩), x61, x62, t63, t64, t65, t66, t67, t68, t69, t70, t71, t72, t73, t74, t75, t76, t77, t78, t79, t80, t81, t82, t83, t84, t85, t86, t87, t88, t89, t90, t91, t92, t93, t94, t95, t96, t97, t98, t99, t100, t101, t102, t103, t104, t105, t106, t107, t108, t109, t110, t111, t112, t113, t114, t115, t116, t117, t118, t119, t120, t121], defers := [] } w := by
    intro w hv x54 x55 dp op kp Bp x57 yp p lp x58 x59 dq oq kq Bq x61 yq q lq x62 gr xr hg
    refine wpAnyH_ready (rs := [3, 7]) (by kernel_rfl) (by simp) ?_
    refine (AllReadyH.cons (o := ({ dst := some 57, op := Op.load 22 (Operand.tmp 56), type := 22, pos := "law.go:36", after := #[{ on := 2, ground := Ground.data }], guard := none } : Oper)) rfl (fun K hK => ?_) (AllReadyH.cons (o := ({ dst := some 61, op := Op.load 22 (Operand.tmp 60), type := 22, pos := "law.go:36", after := #[{ on := 6, ground := Ground.data }], guard := none } : Oper)) rfl (fun K hK => ?_) AllReadyH.nil))
    · skip
      go_simp
      refine hK.out _ _ trivial (fun _ => ?_)
      clear hK K
      (try simp only [List.setIfInBounds_toArray, List.set_cons_zero, List.set_cons_succ])
      exact K4301 _ hv _ _ _ _ _ p _ _ _ _ _ _ _ yq q lq _ _ xr hg
    · skip
      go_simp
      refine hK.out _ _ trivial (fun _ => ?_)
      clear hK K
      (try simp only [List.setIfInBounds_toArray, List.set_cons_zero, List.set_cons_succ])
      exact K3401 _ hv _ _ _ _ _ _ _ yp p lp _ _ _ _ _ q _ _ xr hg
  have K2401 : ∀ (w : World) (hv : Below w0.heap.size w0 w) (x54 : Value) (dp op kp : Nat) (Bp : Option Addr) (cp : Nat) (x56 : Value) (x57 : Value) (yp : w.cell? ⟨dp, op, none⟩ = some (.slice Bp 2 kp)) (p : Pn w Bp 2 kp [1, 2] 1) (lp : dp < w.heap.size) (x58 : Value) (x59 : Value) (x60 : Value) (kq : Nat) (Bq : Option Addr) (q : Pn w Bq 3 kq [3, 0, 1] 1) (x62 : Value) (gr : Nat) (xr : w.heap[gr]? = some (.cells #[.bool false, .slice none 0 0] 30)) (hg : w0.heap.size ≤ gr), wpAnyH Tryz.prog .any R7o Q (fun _ => True) 4 #[true, true, false, false, true, true, true, true, false, true, false] { tmps := #[t0, t1, t2, t3, t4, t5, t6, t7, t8, t9, t10, t11, t12, .pointer (some ⟨gr, 0, none⟩), t14, t15, t16, t17, t18, t19, t20, t21, t22, t23, t24, t25, t26, t27, t28, t29, t30, t31, t32, t33, t34, t35, t36, t37, t38, t39, t40, t41, t42, t43, t44, t45, t46, t47, t48, t49, t50, t51, t52, t53, x54, .slice (some ⟨dp, op, none⟩) 1 cp, x56, x57, x58, x59, x60, .slice Bq 3 kq, x62, t63, t64, t65, t66, t67, t68, t69, t70, t71, t72, t73, t74, t75, t76, t77, t78, t79, t80, t81, t82, t83, t84, t85, t86, t87, t88, t89, t90, t91, t92, t93, t94, t95, t96, t97, t98, t99, t100, t101, t102, t103, t104, t105, t106, t107, t108, t109, t110, t111, t112, t113, t114, t115, t116, t117, t118, t119, t120, t121], defers := [] } w := by
    intro w hv x54 dp op kp Bp cp x56 x57 yp p lp x58 x59 x60 kq Bq q x62 gr xr hg
    refine wpAnyH_ready (rs := [2]) (by kernel_rfl) (by simp) ?_
    refine (AllReadyH.cons (o := ({ dst := some 56, op := Op.indexAddr 35 (Operand.tmp 55) (Operand.const (Value.int IntKind.i64 0)), type := 0, pos := "law.go:36", after := #[{ on := 1, ground := Ground.data }], guard := none } : Oper)) rfl (fun K hK => ?_) AllReadyH.nil)
    · skip
      go_simp
      refine hK.out _ _ trivial (fun _ => ?_)
      clear hK K
      (try simp only [List.setIfInBounds_toArray, List.set_cons_zero, List.set_cons_succ])
      exact K3401 _ hv _ _ _ _ _ _ _ yp p lp _ _ _ _ _ q _ _ xr hg
  have K4300 : ∀ (w : World) (hv : Below w0.heap.size w0 w) (x54 : Value) (x55 : Value) (x56 : Value) (kp : Nat) (Bp : Option Addr) (p : Pn w Bp 2 kp [1, 2] 1) (x58 : Value) (x59 : Value) (dq oq kq : Nat) (Bq : Option Addr) (x61 : Value) (yq : w.cell? ⟨dq, oq, none⟩ = some (.slice Bq 3 kq)) (q : Pn w Bq 3 kq [3, 0, 1] 1) (lq : dq < w.heap.size) (x62 : Value) (x13 : Value), wpAnyH Tryz.prog .any R7o Q (fun _ => True) 4 #[true, true, true, true, true, true, true, false, false, false, false] { tmps := #[t0, t1, t2, t3, t4, t5, t6, t7, t8, t9, t10, t11, t12, x13, t14, t15, t16, t17, t18, t19, t20, t21, t22, t23, t24, t25, t26, t27, t28, t29, t30, t31, t32, t33, t34, t35, t36, t37, t38, t39, t40, t41, t42, t43, t44, t45, t46, t47, t48, t49, t50, t51, t52, t53, x54, x55, x56, .slice Bp 2 kp, x58, x59, .pointer (some ⟨dq, oq, none⟩), x61, x62, t63, t64, t65, t66, t67, t68, t69, t70, t71, t72, t73, t74, t75, t76, t77, t78, t79, t80, t81, t82, t83, t84, t85, t86, t87, t88, t89, t90, t91, t92, t93, t94, t95, t96, t97, t98, t99, t100, t101, t102, t103, t104, t105, t106, t107, t108, t109, t110, t111, t112, t113, t114, t115, t116, t117, t118, t119, t120, t121], defers := [] } w := by
    intro w hv x54 x55 x56 kp Bp p x58 x59 dq oq kq Bq x61 yq q lq x62 x13
    refine wpAnyH_ready (rs := [7, 9]) (by kernel_rfl) (by simp) ?_
    refine (AllReadyH.cons (o := ({ dst := some 61, op := Op.load 22 (Operand.tmp 60), type := 22, pos := "law.go:36", after := #[{ on := 6, ground := Ground.data }], guard := none } : Oper)) rfl (fun K hK => ?_) (AllReadyH.cons (o := ({ dst := some 13, op := Op.alloc 30, type := 0, pos := "law.go:36", after := #[], guard := none } : Oper)) rfl (fun K hK => ?_) AllReadyH.nil))
    · skip
      go_simp
      refine hK.out _ _ trivial (fun _ => ?_)
      clear hK K
      (try simp only [List.setIfInBounds_toArray, List.set_cons_zero, List.set_cons_succ])
      exact K4400 _ hv _ _ _ _ _ p _ _ _ _ _ q _ _
    · skip
      go_simp
      refine hK.out _ _ trivial (fun _ => ?_)
      clear hK K
      (try simp only [List.setIfInBounds_toArray, List.set_cons_zero, List.set_cons_succ])
      exact K4301 _ (bA hv) _ _ _ _ _ (p.keep (below_alloc _ _)) _ _ _ _ _ _ _ (((below_alloc _ _).cell (p := ⟨dq, oq, none⟩) lq).trans yq) (q.keep (below_alloc _ _)) (Nat.lt_of_lt_of_le lq (below_alloc _ _).size) _ _ (heap_alloc_new _ _) hv.size
  have K3400 : ∀ (w : World) (hv : Below w0.heap.size w0 w) (x54 : Value) (x55 : Value) (dp op kp : Nat) (Bp : Option Addr) (x57 : Value) (yp : w.cell? ⟨dp, op, none⟩ = some (.slice Bp 2 kp)) (p : Pn w Bp 2 kp [1, 2] 1) (lp : dp < w.heap.size) (x58 : Value) (x59 : Value) (x60 : Value) (kq : Nat) (Bq : Option Addr) (q : Pn w Bq 3 kq [3, 0, 1] 1) (x62 : Value) (x13 : Value), wpAnyH Tryz.prog .any R7o Q (fun _ => True) 4 #[true, true, true, false, true, true, true, true, false, false, false] { tmps := #[t0, t1, t2, t3, t4, t5, t6, t7, t8, t9, t10, t11, t12, x13, t14, t15, t16, t17, t18, t19, t20, t21, t22, t23, t24, t25, t26, t27, t28, t29, t30, t31, t32, t33, t34, t35, t36, t37, t38, t39, t40, t41, t42, t43, t44, t45, t46, t47, t48, t49, t50, t51, t52, t53, x54, x55, .pointer (some ⟨dp, op, none⟩), x57, x58, x59, x60, .slice Bq 3 kq, x62, t63, t64, t65, t66, t67, t68, t69, t70, t71, t72, t73, t74, t75, t76, t77, t78, t79, t80, t81, t82, t83, t84, t85, t86, t87, t88, t89, t90, t91, t92, t93, t94, t95, t96, t97, t98, t99, t100, t101, t102, t103, t104, t105, t106, t107, t108, t109, t110, t111, t112, t113, t114, t115, t116, t117, t118, t119, t120, t121], defers := [] } w := by
    intro w hv x54 x55 dp op kp Bp x57 yp p lp x58 x59 x60 kq Bq q x62 x13
    refine wpAnyH_ready (rs := [3, 9]) (by kernel_rfl) (by simp) ?_
    refine (AllReadyH.cons (o := ({ dst := some 57, op := Op.load 22 (Operand.tmp 56), type := 22, pos := "law.go:36", after := #[{ on := 2, ground := Ground.data }], guard := none } : Oper)) rfl (fun K hK => ?_) (AllReadyH.cons (o := ({ dst := some 13, op := Op.alloc 30, type := 0, pos := "law.go:36", after := #[], guard := none } : Oper)) rfl (fun K hK => ?_) AllReadyH.nil))
    · skip
      go_simp
      refine hK.out _ _ trivial (fun _ => ?_)
      clear hK K
      (try simp only [List.setIfInBounds_toArray, List.set_cons_zero, List.set_cons_succ])
      exact K4400 _ hv _ _ _ _ _ p _ _ _ _ _ q _ _
    · skip
      go_simp
      refine hK.out _ _ trivial (fun _ => ?_)
      clear hK K
      (try simp only [List.setIfInBounds_toArray, List.set_cons_zero, List.set_cons_succ])
      exact K3401 _ (bA hv) _ _ _ _ _ _ _ (((below_alloc _ _).cell (p := ⟨dp, op, none⟩) lp).trans yp) (p.keep (below_alloc _ _)) (Nat.lt_of_lt_of_le lp (below_alloc _ _).size) _ _ _ _ _ (q.keep (below_alloc _ _)) _ _ (heap_alloc_new _ _) hv.size
  have K4101 : ∀ (w : World) (hv : Below w0.heap.size w0 w) (x54 : Value) (x55 : Value) (x56 : Value) (kp : Nat) (Bp : Option Addr) (p : Pn w Bp 2 kp [1, 2] 1) (gq : Nat) (x59 : Value) (x60 : Value) (x61 : Value) (hq : w.heap[gq]? = some (.cells #[.int .i64 3, .int .i64 0, .int .i64 1] 2)) (x62 : Value) (gr : Nat) (xr : w.heap[gr]? = some (.cells #[.bool false, .slice none 0 0] 30)) (hg : w0.heap.size ≤ gr), wpAnyH Tryz.prog .any R7o Q (fun _ => True) 5 #[true, true, true, true, true, false, false, false, false, true, false] { tmps := #[t0, t1, t2, t3, t4, t5, t6, t7, t8, t9, t10, t11, t12, .pointer (some ⟨gr, 0, none⟩), t14, t15, t16, t17, t18, t19, t20, t21, t22, t23, t24, t25, t26, t27, t28, t29, t30, t31, t32, t33, t34, t35, t36, t37, t38, t39, t40, t41, t42, t43, t44, t45, t46, t47, t48, t49, t50, t51, t52, t53, x54, x55, x56, .slice Bp 2 kp, .slice (some ⟨gq, 0, none⟩) 3 3, x59, x60, x61, x62, t63, t64, t65, t66, t67, t68, t69, t70, t71, t72, t73, t74, t75, t76, t77, t78, t79, t80, t81, t82, t83, t84, t85, t86, t87, t88, t89, t90, t91, t92, t93, t94, t95, t96, t97, t98, t99, t100, t101, t102, t103, t104, t105, t106, t107, t108, t109, t110, t111, t112, t113, t114, t115, t116, t117, t118, t119, t120, t121], defers := [] } w := by
    intro w hv x54 x55 x56 kp Bp p gq x59 x60 x61 hq x62 gr xr hg
    refine wpAnyH_ready (rs := [5]) (by kernel_rfl) (by simp) ?_
    refine (AllReadyH.cons (o := ({ dst := some 59, op := Op.call { callee := Callee.value (Operand.func 80), args := #[Operand.const (Value.int IntKind.i64 3), Operand.tmp 58], argTypes := #[3, 95] }, type := 35, pos := "law.go:36", after := #[{ on := 4, ground := Ground.data }, { on := 1, ground := Ground.chain }], guard := none } : Oper)) rfl (fun K hK => ?_) AllReadyH.nil)
    · skip
      go_simp
      with_reducible refine (Hq.out _ _ hq).mono ?_
      rintro e v ⟨Aq, cq, rfl, q0, hb2⟩
      obtain ⟨dq, oq, Bq, mq, kq, eq, x_q, q⟩ := q0.row (k := 0) (by omega)
      subst eq
      obtain rfl : mq = 3 := q.len.symm
      replace q : Pn v Bq 3 kq [3, 0, 1] 1 := q
      have yq : v.cell? ⟨dq, oq, none⟩ = some (.slice Bq 3 kq) := x_q.al
      (try go_wp2_with fail)
      refine hK.out _ _ trivial (fun _ => ?_)
      clear hK K
      (try simp only [List.setIfInBounds_toArray, List.set_cons_zero, List.set_cons_succ])
      exact K4201 _ (bthen hv hb2) _ _ _ _ _ (p.keep hb2) _ _ _ _ _ _ _ _ yq q x_q.lt _ _ (keepB hb2 xr) hg
  have K3201 : ∀ (w : World) (hv : Below w0.heap.size w0 w) (x54 : Value) (x55 : Value) (dp op kp : Nat) (Bp : Option Addr) (x57 : Value) (yp : w.cell? ⟨dp, op, none⟩ = some (.slice Bp 2 kp)) (p : Pn w Bp 2 kp [1, 2] 1) (lp : dp < w.heap.size) (x58 : Value) (dq oq kq : Nat) (Bq : Option Addr) (cq : Nat) (x60 : Value) (x61 : Value) (yq : w.cell? ⟨dq, oq, none⟩ = some (.slice Bq 3 kq)) (q : Pn w Bq 3 kq [3, 0, 1] 1) (lq : dq < w.heap.size) (x62 : Value) (gr : Nat) (xr : w.heap[gr]? = some (.cells #[.bool false, .slice none 0 0] 30)) (hg : w0.heap.size ≤ gr), wpAnyH Tryz.prog .any R7o Q (fun _ => True) 5 #[true, true, true, false, true, true, false, false, false, true, false] { tmps := #[t0, t1, t2, t3, t4, t5, t6, t7, t8, t9, t10, t11, t12, .pointer (some ⟨gr, 0, none⟩), t14, t15, t16, t17, t18, t19, t20, t21, t22, t23, t24, t25, t26, t27, t28, t29, t30, t31, t32, t33, t34, t35, t36, t37, t38, t39, t40, t41, t42, t43, t44, t45, t46, t47, t48, t49, t50, t51, t52, t53, x54, x55, .pointer (some ⟨dp, op, none⟩), x57, x58, .slice (some ⟨dq, oq, none⟩) 1 cq, x60, x61, x62, t63, t64, t65, t66, t67, t68, t69, t70, t71, t72, t73, t74, t75, t76, t77, t78, t79, t80, t81, t82, t83, t84, t85, t86, t87, t88, t89, t90, t91, t92, t93, t94, t95, t96, t97, t98, t99, t100, t101, t102, t103, t104, t105, t106, t107, t108, t109, t110, t111, t112, t113, t114, t115, t116, t117, t118, t119, t120, t121], defers := [] } w := by
    intro w hv x54 x55 dp op kp Bp x57 yp p lp x58 dq oq kq Bq cq x60 x61 yq q lq x62 gr xr hg
    refine wpAnyH_ready (rs := [3, 6]) (by kernel_rfl) (by simp) ?_
    refine (AllReadyH.cons (o := ({ dst := some 57, op := Op.load 22 (Operand.tmp 56), type := 22, pos := "law.go:36", after := #[{ on := 2, ground := Ground.data }], guard := none } : Oper)) rfl (fun K hK => ?_) (AllReadyH.cons (o := ({ dst := some 60, op := Op.indexAddr 35 (Operand.tmp 59) (Operand.const (Value.int IntKind.i64 0)), type := 0, pos := "law.go:36", after := #[{ on := 5, ground := Ground.data }], guard := none } : Oper)) rfl (fun K hK => ?_) AllReadyH.nil))
    · skip
      go_simp
      refine hK.out _ _ trivial (fun _ => ?_)
      clear hK K
      (try simp only [List.setIfInBounds_toArray, List.set_cons_zero, List.set_cons_succ])
      exact K4201 _ hv _ _ _ _ _ p _ _ _ _ _ _ _ _ yq q lq _ _ xr hg
    · skip
      go_simp
      refine hK.out _ _ trivial (fun _ => ?_)
      clear hK K
      (try simp only [List.setIfInBounds_toArray, List.set_cons_zero, List.set_cons_succ])
      exact K3301 _ hv _ _ _ _ _ _ _ yp p lp _ _ _ _ _ _ _ yq q lq _ _ xr hg
  have K2301 : ∀ (w : World) (hv : Below w0.heap.size w0 w) (x54 : Value) (dp op kp : Nat) (Bp : Option Addr) (cp : Nat) (x56 : Value) (x57 : Value) (yp : w.cell? ⟨dp, op, none⟩ = some (.slice Bp 2 kp)) (p : Pn w Bp 2 kp [1, 2] 1) (lp : dp < w.heap.size) (x58 : Value) (x59 : Value) (dq oq kq : Nat) (Bq : Option Addr) (x61 : Value) (yq : w.cell? ⟨dq, oq, none⟩ = some (.slice Bq 3 kq)) (q : Pn w Bq 3 kq [3, 0, 1] 1) (lq : dq < w.heap.size) (x62 : Value) (gr : Nat) (xr : w.heap[gr]? = some (.cells #[.bool false, .slice none 0 0] 30)) (hg : w0.heap.size ≤ gr), wpAnyH Tryz.prog .any R7o Q (fun _ => True) 5 #[true, true, false, false, true, true, true, false, false, true, false] { tmps := #[t0, t1, t2, t3, t4, t5, t6, t7, t8, t9, t10, t11, t12, .pointer (some ⟨gr, 0, none⟩), t14, t15, t16, t17, t18, t19, t20, t21, t22, t23, t24, t25, t26, t27, t28, t29, t30, t31, t32, t33, t34, t35, t36, t37, t38, t39, t40, t41, t42, t43, t44, t45, t46, t47, t48, t49, t50, t51, t52, t53, x54, .slice (some ⟨dp, op, none⟩) 1 cp, x56, x57, x58, x59, .pointer (some ⟨dq, oq, none⟩), x61, x62, t63, t64, t65, t66, t67, t68, t69, t70, t71, t72, t73, t74, t75, t76, t77, t78, t79, t80, t81, t82, t83, t84, t85, t86, t87, t88, t89, t90, t91, t92, t93, t94, t95, t96, t97, t98, t99, t100, t101, t102, t103, t104, t105, t106, t107, t108, t109, t110, t111, t112, t113, t114, t115, t116, t117, t118, t119, t120, t121], defers := [] } w := by
    intro w hv x54 dp op kp Bp cp x56 x57 yp p lp x58 x59 dq oq kq Bq x61 yq q lq x62 gr xr hg
    refine wpAnyH_ready (rs := [2, 7]) (by kernel_rfl) (by simp) ?_
    refine (AllReadyH.cons (o := ({ dst := some 56, op := Op.indexAddr 35 (Operand.tmp 55) (Operand.const (Value.int IntKind.i64 0)), type := 0, pos := "law.go:36", after := #[{ on := 1, ground := Ground.data }], guard := none } : Oper)) rfl (fun K hK => ?_) (AllReadyH.cons (o := ({ dst := some 61, op := Op.load 22 (Operand.tmp 60), type := 22, pos := "law.go:36", after := #[{ on := 6, ground := Ground.data }], guard := none } : Oper)) rfl (fun K hK => ?_) AllReadyH.nil))
    · skip
      go_simp
      refine hK.out _ _ trivial (fun _ => ?_)
      clear hK K
      (try simp only [List.setIfInBounds_toArray, List.set_cons_zero, List.set_cons_succ])
      exact K3301 _ hv _ _ _ _ _ _ _ yp p lp _ _ _ _ _ _ _ yq q lq _ _ xr hg
    · skip
      go_simp
      refine hK.out _ _ trivial (fun _ => ?_)
      clear hK K
      (try simp only [List.setIfInBounds_toArray, List.set_cons_zero, List.set_cons_succ])
      exact K2401 _ hv _ _ _ _ _ _ _ _ yp p lp _ _ _ _ _ q _ _ xr hg
  have K4200 : ∀ (w : World) (hv : Below w0.heap.size w0 w) (x54 : Value) (x55 : Value) (x56 : Value) (kp : Nat) (Bp : Option Addr) (p : Pn w Bp 2 kp [1, 2] 1) (x58 : Value) (dq oq kq : Nat) (Bq : Option Addr) (cq : Nat) (x60 : Value) (x61 : Value) (yq : w.cell? ⟨dq, oq, none⟩ = some (.slice Bq 3 kq)) (q : Pn w Bq 3 kq [3, 0, 1] 1) (lq : dq < w.heap.size) (x62 : Value) (x13 : Value), wpAnyH Tryz.prog .any R7o Q (fun _ => True) 5 #[true, true, true, true, true, true, false, false, false, false, false] { tmps := #[t0, t1, t2, t3, t4, t5, t6, t7, t8, t9, t10, t11, t12, x13, t14, t15, t16, t17, t18, t19, t20, t21, t22, t23, t24, t25, t26, t27, t28, t29, t30, t31, t32, t33, t34, t35, t36, t37, t38, t39, t40, t41, t42, t43, t44, t45, t46, t47, t48, t49, t50, t51, t52, t53, x54, x55, x56, .slice Bp 2 kp, x58, .slice (some ⟨dq, oq, none⟩) 1 cq, x60, x61, x62, t63, t64, t65, t66, t67, t68, t69, t70, t71, t72, t73, t74, t75, t76, t77, t78, t79, t80, t81, t82, t83, t84, t85, t86, t87, t88, t89, t90, t91, t92, t93, t94, t95, t96, t97, t98, t99, t100, t101, t102, t103, t104, t105, t106, t107, t108, t109, t110, t111, t112, t113, t114, t115, t116, t117, t118, t119, t120, t121], defers := [] } w := by
    intro w hv x54 x55 x56 kp Bp p x58 dq oq kq Bq cq x60 x61 yq q lq x62 x13
    refine wpAnyH_ready (rs := [6, 9]) (by kernel_rfl) (by simp) ?_
    refine (AllReadyH.cons (o := ({ dst := some 60, op := Op.indexAddr 35 (Operand.tmp 59) (Operand.const (Value.int IntKind.i64 0)), type := 0, pos := "law.go:36", after := #[{ on := 5, ground := Ground.data }], guard := none } : Oper)) rfl (fun K hK => ?_) (AllReadyH.cons (o := ({ dst := some 13, op := Op.alloc 30, type := 0, pos := "law.go:36", after := #[], guard := none } : Oper)) rfl (fun K hK => ?_) AllReadyH.nil))
    · skip
      go_simp
      refine hK.out _ _ trivial (fun _ => ?_)
      clear hK K
      (try simp only [List.setIfInBounds_toArray, List.set_cons_zero, List.set_cons_succ])
      exact K4300 _ hv _ _ _ _ _ p _ _ _ _ _ _ _ yq q lq _ _
    · skip
      go_simp
      refine hK.out _ _ trivial (fun _ => ?_)
      clear hK K
      (try simp only [List.setIfInBounds_toArray, List.set_cons_zero, List.set_cons_succ])
      exact K4201 _ (bA hv) _ _ _ _ _ (p.keep (below_alloc _ _)) _ _ _ _ _ _ _ _ (((below_alloc _ _).cell (p := ⟨dq, oq, none⟩) lq).trans yq) (q.keep (below_alloc _ _)) (Nat.lt_of_lt_of_le lq (below_alloc _ _).size) _ _ (heap_alloc_new _ _) hv.size
  have K3300 : ∀ (w : World) (hv : Below w0.heap.size w0 w) (x54 : Value) (x55 : Value) (dp op kp : Nat) (Bp : Option Addr) (x57 : Value) (yp : w.cell? ⟨dp, op, none⟩ = some (.slice Bp 2 kp)) (p : Pn w Bp 2 kp [1, 2] 1) (lp : dp < w.heap.size) (x58 : Value) (x59 : Value) (dq oq kq : Nat) (Bq : Option Addr) (x61 : Value) (yq : w.cell? ⟨dq, oq, none⟩ = some (.slice Bq 3 kq)) (q : Pn w Bq 3 kq [3, 0, 1] 1) (lq : dq < w.heap.size) (x62 : Value) (x13 : Value), wpAnyH Tryz.prog .any R7o Q (fun _ => True) 5 #[true, true, true, false, true, true, true, false, false, false, false] { tmps := #[t0, t1, t2, t3, t4, t5, t6, t7, t8, t9, t10, t11, t12, x13, t14, t15, t16, t17, t18, t19, t20, t21, t22, t23, t24, t25, t26, t27, t28, t29, t30, t31, t32, t33, t34, t35, t36, t37, t38, t39, t40, t41, t42, t43, t44, t45, t46, t47, t48, t49, t50, t51, t52, t53, x54, x55, .pointer (some ⟨dp, op, none⟩), x57, x58, x59, .pointer (some ⟨dq, oq, none⟩), x61, x62, t63, t64, t65, t66, t67, t68, t69, t70, t71, t72, t73, t74, t75, t76, t77, t78, t79, t80, t81, t82, t83, t84, t85, t86, t87, t88, t89, t90, t91, t92, t93, t94, t95, t96, t97, t98, t99, t100, t101, t102, t103, t104, t105, t106, t107, t108, t109, t110, t111, t112, t113, t114, t115, t116, t117, t118, t119, t120, t121], defers := [] } w := by
    intro w hv x54 x55 dp op kp Bp x57 yp p lp x58 x59 dq oq kq Bq x61 yq q lq x62 x13
    refine wpAnyH_ready (rs := [3, 7, 9]) (by kernel_rfl) (by simp) ?_
    refine (AllReadyH.cons (o := ({ dst := some 57, op := Op.load 22 (Operand.tmp 56), type := 22, pos := "law.go:36", after := #[{ on := 2, ground := Ground.data }], guard := none } : Oper)) rfl (fun K hK => ?_) (AllReadyH.cons (o := ({ dst := some 61, op := Op.load 22 (Operand.tmp 60), type := 22, pos := "law.go:36", after := #[{ on := 6, ground := Ground.data }], guard := none } : Oper)) rfl (fun K hK => ?_) (AllReadyH.cons (o := ({ dst := some 13, op := Op.alloc 30, type := 0, pos := "law.go:36", after := #[], guard := none } : Oper)) rfl (fun K hK => ?_) AllReadyH.nil)))
    · skip
      go_simp
      refine hK.out _ _ trivial (fun _ => ?_)
      clear hK K
      (try simp only [List.setIfInBounds_toArray, List.set_cons_zero, List.set_cons_succ])
      exact K4300 _ hv _ _ _ _ _ p _ _ _ _ _ _ _ yq q lq _ _
    · skip
      go_simp
      refine hK.out _ _ trivial (fun _ => ?_)
      clear hK K
      (try simp only [List.setIfInBounds_toArray, List.set_cons_zero, List.set_cons_succ])
      exact K3400 _ hv _ _ _ _ _ _ _ yp p lp _ _ _ _ _ q _ _
    · skip
      go_simp
      refine hK.out _ _ trivial (fun _ => ?_)
      clear hK K
      (try simp only [List.setIfInBounds_toArray, List.set_cons_zero, List.set_cons_succ])
      exact K3301 _ (bA hv) _ _ _ _ _ _ _ (((below_alloc _ _).cell (p := ⟨dp, op, none⟩) lp).trans yp) (p.keep (below_alloc _ _)) (Nat.lt_of_lt_of_le lp (below_alloc _ _).size) _ _ _ _ _ _ _ (((below_alloc _ _).cell (p := ⟨dq, oq, none⟩) lq).trans yq) (q.keep (below_alloc _ _)) (Nat.lt_of_lt_of_le lq (below_alloc _ _).size) _ _ (heap_alloc_new _ _) hv.size
  have K2400 : ∀ (w : World) (hv : Below w0.heap.size w0 w) (x54 : Value) (dp op kp : Nat) (Bp : Option Addr) (cp : Nat) (x56 : Value) (x57 : Value) (yp : w.cell? ⟨dp, op, none⟩ = some (.slice Bp 2 kp)) (p : Pn w Bp 2 kp [1, 2] 1) (lp : dp < w.heap.size) (x58 : Value) (x59 : Value) (x60 : Value) (kq : Nat) (Bq : Option Addr) (q : Pn w Bq 3 kq [3, 0, 1] 1) (x62 : Value) (x13 : Value), wpAnyH Tryz.prog .any R7o Q (fun _ => True) 5 #[true, true, false, false, true, true, true, true, false, false, false] { tmps := #[t0, t1, t2, t3, t4, t5, t6, t7, t8, t9, t10, t11, t12, x13, t14, t15, t16, t17, t18, t19, t20, t21, t22, t23, t24, t25, t26, t27, t28, t29, t30, t31, t32, t33, t34, t35, t36, t37, t38, t39, t40, t41, t42, t43, t44, t45, t46, t47, t48, t49, t50, t51, t52, t53, x54, .slice (some ⟨dp, op, none⟩) 1 cp, x56, x57, x58, x59, x60, .slice Bq 3 kq, x62, t63, t64, t65, t66, t67, t68, t69, t70, t71, t72, t73, t74, t75, t76, t77, t78, t79, t80, t81, t82, t83, t84, t85, t86, t87, t88, t89, t90, t91, t92, t93, t94, t95, t96, t97, t98, t99, t100, t101, t102, t103, t104, t105, t106, t107, t108, t109, t110, t111, t112, t113, t114, t115, t116, t117, t118, t119, t120, t121], defers := [] } w := by
    intro w hv x54 dp op kp Bp cp x56 x57 yp p lp x58 x59 x60 kq Bq q x62 x13
    refine wpAnyH_ready (rs := [2, 9]) (by kernel_rfl) (by simp) ?_
    refine (AllReadyH.cons (o := ({ dst := some 56, op := Op.indexAddr 35 (Operand.tmp 55) (Operand.const (Value.int IntKind.i64 0)), type := 0, pos := "law.go:36", after := #[{ on := 1, ground := Ground.data }], guard := none } : Oper)) rfl (fun K hK => ?_) (AllReadyH.cons (o := ({ dst := some 13, op := Op.alloc 30, type := 0, pos := "law.go:36", after := #[], guard := none } : Oper)) rfl (fun K hK => ?_) AllReadyH.nil))
    · skip
      go_simp
      refine hK.out _ _ trivial (fun _ => ?_)
      clear hK K
      (try simp only [List.setIfInBounds_toArray, List.set_cons_zero, List.set_cons_succ])
      exact K3400 _ hv _ _ _ _ _ _ _ yp p lp _ _ _ _ _ q _ _
    · skip
      go_simp
      refine hK.out _ _ trivial (fun _ => ?_)
      clear hK K
      (try simp only [List.setIfInBounds_toArray, List.set_cons_zero, List.set_cons_succ])
      exact K2401 _ (bA hv) _ _ _ _ _ _ _ _ (((below_alloc _ _).cell (p := ⟨dp, op, none⟩) lp).trans yp) (p.keep (below_alloc _ _)) (Nat.lt_of_lt_of_le lp (below_alloc _ _).size) _ _ _ _ _ (q.keep (below_alloc _ _)) _ _ (heap_alloc_new _ _) hv.size
  have K4001 : ∀ (w : World) (hv : Below w0.heap.size w0 w) (x54 : Value) (x55 : Value) (x56 : Value) (kp : Nat) (Bp : Option Addr) (p : Pn w Bp 2 kp [1, 2] 1) (x58 : Value) (x59 : Value) (x60 : Value) (x61 : Value) (x62 : Value) (gr : Nat) (xr : w.heap[gr]? = some (.cells #[.bool false, .slice none 0 0] 30)) (hg : w0.heap.size ≤ gr), wpAnyH Tryz.prog .any R7o Q (fun _ => True) 6 #[true, true, true, true, false, false, false, false, false, true, false] { tmps := #[t0, t1, t2, t3, t4, t5, t6, t7, t8, t9, t10, t11, t12, .pointer (some ⟨gr, 0, none⟩), t14, t15, t16, t17, t18, t19, t20, t21, t22, t23, t24, t25, t26, t27, t28, t29, t30, t31, t32, t33, t34, t35, t36, t37, t38, t39, t40, t41, t42, t43, t44, t45, t46, t47, t48, t49, t50, t51, t52, t53, x54, x55, x56, .slice Bp 2 kp, x58, x59, x60, x61, x62, t63, t64, t65, t66, t67, t68, t69, t70, t71, t72, t73, t74, t75, t76, t77, t78, t79, t80, t81, t82, t83, t84, t85, t86, t87, t88, t89, t90, t91, t92, t93, t94, t95, t96, t97, t98, t99, t100, t101, t102, t103, t104, t105, t106, t107, t108, t109, t110, t111, t112, t113, t114, t115, t116, t117, t118, t119, t120, t121], defers := [] } w := by
    intro w hv x54 x55 x56 kp Bp p x58 x59 x60 x61 x62 gr xr hg
    refine wpAnyH_ready (rs := [4]) (by kernel_rfl) (by simp) ?_
    refine (AllReadyH.cons (o := ({ dst := some 58, op := Op.buildSlice 95 3 #[(0, Operand.const (Value.int IntKind.i64 3)), (1, Operand.const (Value.int IntKind.i64 0)), (2, Operand.const (Value.int IntKind.i64 1))], type := 95, pos := "law.go:36", after := #[], guard := none } : Oper)) rfl (fun K hK => ?_) AllReadyH.nil)
    · skip
      go_simp
      refine hK.out _ _ trivial (fun _ => ?_)
      clear hK K
      (try simp only [List.setIfInBounds_toArray, List.set_cons_zero, List.set_cons_succ])
      exact K4101 _ (bA hv) _ _ _ _ _ (p.keep (below_alloc _ _)) _ _ _ _ (heap_alloc_new _ _) _ _ (up_al xr) hg
  have K3101 : ∀ (w : World) (hv : Below w0.heap.size w0 w) (x54 : Value) (x55 : Value) (dp op kp : Nat) (Bp : Option Addr) (x57 : Value) (yp : w.cell? ⟨dp, op, none⟩ = some (.slice Bp 2 kp)) (p : Pn w Bp 2 kp [1, 2] 1) (lp : dp < w.heap.size) (gq : Nat) (x59 : Value) (x60 : Value) (x61 : Value) (hq : w.heap[gq]? = some (.cells #[.int .i64 3, .int .i64 0, .int .i64 1] 2)) (x62 : Value) (gr : Nat) (xr : w.heap[gr]? = some (.cells #[.bool false, .slice none 0 0] 30)) (hg : w0.heap.size ≤ gr), wpAnyH Tryz.prog .any R7o Q (fun _ => True) 6 #[true, true, true, false, true, false, false, false, false, true, false] { tmps := #[t0, t1, t2, t3, t4, t5, t6, t7, t8, t9, t10, t11, t12, .pointer (some ⟨gr, 0, none⟩), t14, t15, t16, t17, t18, t19, t20, t21, t22, t23, t24, t25, t26, t27, t28, t29, t30, t31, t32, t33, t34, t35, t36, t37, t38, t39, t40, t41, t42, t43, t44, t45, t46, t47, t48, t49, t50, t51, t52, t53, x54, x55, .pointer (some ⟨dp, op, none⟩), x57, .slice (some ⟨gq, 0, none⟩) 3 3, x59, x60, x61, x62, t63, t64, t65, t66, t67, t68, t69, t70, t71, t72, t73, t74, t75, t76, t77, t78, t79, t80, t81, t82, t83, t84, t85, t86, t87, t88, t89, t90, t91, t92, t93, t94, t95, t96, t97, t98, t99, t100, t101, t102, t103, t104, t105, t106, t107, t108, t109, t110, t111, t112, t113, t114, t115, t116, t117, t118, t119, t120, t121], defers := [] } w := by
    intro w hv x54 x55 dp op kp Bp x57 yp p lp gq x59 x60 x61 hq x62 gr xr hg
    refine wpAnyH_ready (rs := [3, 5]) (by kernel_rfl) (by simp) ?_
    refine (AllReadyH.cons (o := ({ dst := some 57, op := Op.load 22 (Operand.tmp 56), type := 22, pos := "law.go:36", after := #[{ on := 2, ground := Ground.data }], guard := none } : Oper)) rfl (fun K hK => ?_) (AllReadyH.cons (o := ({ dst := some 59, op := Op.call { callee := Callee.value (Operand.func 80), args := #[Operand.const (Value.int IntKind.i64 3), Operand.tmp 58], argTypes := #[3, 95] }, type := 35, pos := "law.go:36", after := #[{ on := 4, ground := Ground.data }, { on := 1, ground := Ground.chain }], guard := none } : Oper)) rfl (fun K hK => ?_) AllReadyH.nil))
    · skip
      go_simp
      refine hK.out _ _ trivial (fun _ => ?_)
      clear hK K
      (try simp only [List.setIfInBounds_toArray, List.set_cons_zero, List.set_cons_succ])
      exact K4101 _ hv _ _ _ _ _ p _ _ _ _ hq _ _ xr hg
    · skip
      go_simp
      with_reducible refine (Hq.out _ _ hq).mono ?_
      rintro e v ⟨Aq, cq, rfl, q0, hb2⟩
      obtain ⟨dq, oq, Bq, mq, kq, eq, x_q, q⟩ := q0.row (k := 0) (by omega)
      subst eq
      obtain rfl : mq = 3 := q.len.symm
      replace q : Pn v Bq 3 kq [3, 0, 1] 1 := q
      have yq : v.cell? ⟨dq, oq, none⟩ = some (.slice Bq 3 kq) := x_q.al
      (try go_wp2_with fail)
      refine hK.out _ _ trivial (fun _ => ?_)
      clear hK K
      (try simp only [List.setIfInBounds_toArray, List.set_cons_zero, List.set_cons_succ])
      exact K3201 _ (bthen hv hb2) _ _ _ _ _ _ _ ((hb2.cell (p := ⟨dp, op, none⟩) lp).trans yp) (p.keep hb2) (Nat.lt_of_lt_of_le lp hb2.size) _ _ _ _ _ _ _ _ yq q x_q.lt _ _ (keepB hb2 xr) hg
  have K2201 : ∀ (w : World) (hv : Below w0.heap.size w0 w) (x54 : Value) (dp op kp : Nat) (Bp : Option Addr) (cp : Nat) (x56 : Value) (x57 : Value) (yp : w.cell? ⟨dp, op, none⟩ = some (.slice Bp 2 kp)) (p : Pn w Bp 2 kp [1, 2] 1) (lp : dp < w.heap.size) (x58 : Value) (dq oq kq : Nat) (Bq : Option Addr) (cq : Nat) (x60 : Value) (x61 : Value) (yq : w.cell? ⟨dq, oq, none⟩ = some (.slice Bq 3 kq)) (q : Pn w Bq 3 kq [3, 0, 1] 1) (lq : dq < w.heap.size) (x62 : Value) (gr : Nat) (xr : w.heap[gr]? = some (.cells #[.bool false, .slice none 0 0] 30)) (hg : w0.heap.size ≤ gr), wpAnyH Tryz.prog .any R7o Q (fun _ => True) 6 #[true, true, false, false, true, true, false, false, false, true, false] { tmps := #[t0, t1, t2, t3, t4, t5, t6, t7, t8, t9, t10, t11, t12, .pointer (some ⟨gr, 0, none⟩), t14, t15, t16, t17, t18, t19, t20, t21, t22, t23, t24, t25, t26, t27, t28, t29, t30, t31, t32, t33, t34, t35, t36, t37, t38, t39, t40, t41, t42, t43, t44, t45, t46, t47, t48, t49, t50, t51, t52, t53, x54, .slice (some ⟨dp, op, none⟩) 1 cp, x56, x57, x58, .slice (some ⟨dq, oq, none⟩) 1 cq, x60, x61, x62, t63, t64, t65, t66, t67, t68, t69, t70, t71, t72, t73, t74, t75, t76, t77, t78, t79, t80, t81, t82, t83, t84, t85, t86, t87, t88, t89, t90, t91, t92, t93, t94, t95, t96, t97, t98, t99, t100, t101, t102, t103, t104, t105, t106, t107, t108, t109, t110, t111, t112, t113, t114, t115, t116, t117, t118, t119, t120, t121], defers := [] } w := by
    intro w hv x54 dp op kp Bp cp x56 x57 yp p lp x58 dq oq kq Bq cq x60 x61 yq q lq x62 gr xr hg
    refine wpAnyH_ready (rs := [2, 6]) (by kernel_rfl) (by simp) ?_
    refine (AllReadyH.cons (o := ({ dst := some 56, op := Op.indexAddr 35 (Operand.tmp 55) (Operand.const (Value.int IntKind.i64 0)), type := 0, pos := "law.go:36", after := #[{ on := 1, ground := Ground.data }], guard := none } : Oper)) rfl (fun K hK => ?_) (AllReadyH.cons (o := ({ dst := some 60, op := Op.indexAddr 35 (Operand.tmp 59) (Operand.const (Value.int IntKind.i64 0)), type := 0, pos := "law.go:36", after := #[{ on := 5, ground := Ground.data }], guard := none } : Oper)) rfl (fun K hK => ?_) AllReadyH.nil))
    · skip
      go_simp
      refine hK.out _ _ trivial (fun _ => ?_)
      clear hK K
      (try simp only [List.setIfInBounds_toArray, List.set_cons_zero, List.set_cons_succ])
      exact K3201 _ hv _ _ _ _ _ _ _ yp p lp _ _ _ _ _ _ _ _ yq q lq _ _ xr hg
    · skip
      go_simp
      refine hK.out _ _ trivial (fun _ => ?_)
      clear hK K
      (try simp only [List.setIfInBounds_toArray, List.set_cons_zero, List.set_cons_succ])
      exact K2301 _ hv _ _ _ _ _ _ _ _ yp p lp _ _ _ _ _ _ _ yq q lq _ _ xr hg
  have K4100 : ∀ (w : World) (hv : Below w0.heap.size w0 w) (x54 : Value) (x55 : Value) (x56 : Value) (kp : Nat) (Bp : Option Addr) (p : Pn w Bp 2 kp [1, 2] 1) (gq : Nat) (x59 : Value) (x60 : Value) (x61 : Value) (hq : w.heap[gq]? = some (.cells #[.int .i64 3, .int .i64 0, .int .i64 1] 2)) (x62 : Value) (x13 : Value), wpAnyH Tryz.prog .any R7o Q (fun _ => True) 6 #[true, true, true, true, true, false, false, false, false, false, false] { tmps := #[t0, t1, t2, t3, t4, t5, t6, t7, t8, t9, t10, t11, t12, x13, t14, t15, t16, t17, t18, t19, t20, t21, t22, t23, t24, t25, t26, t27, t28, t29, t30, t31, t32, t33, t34, t35, t36, t37, t38, t39, t40, t41, t42, t43, t44, t45, t46, t47, t48, t49, t50, t51, t52, t53, x54, x55, x56, .slice Bp 2 kp, .slice (some ⟨gq, 0, none⟩) 3 3, x59, x60, x61, x62, t63, t64, t65, t66, t67, t68, t69, t70, t71, t72, t73, t74, t75, t76, t77, t78, t79, t80, t81, t82, t83, t84, t85, t86, t87, t88, t89, t90, t91, t92, t93, t94, t95, t96, t97, t98, t99, t100, t101, t102, t103, t104, t105, t106, t107, t108, t109, t110, t111, t112, t113, t114, t115, t116, t117, t118, t119, t120, t121], defers := [] } w := by
    intro w hv x54 x55 x56 kp Bp p gq x59 x60 x61 hq x62 x13
    refine wpAnyH_ready (rs := [5, 9]) (by kernel_rfl) (by simp) ?_
    refine (AllReadyH.cons (o := ({ dst := some 59, op := Op.call { callee := Callee.value (Operand.func 80), args := #[Operand.const (Value.int IntKind.i64 3), Operand.tmp 58], argTypes := #[3, 95] }, type := 35, pos := "law.go:36", after := #[{ on := 4, ground := Ground.data }, { on := 1, ground := Ground.chain }], guard := none } : Oper)) rfl (fun K hK => ?_) (AllReadyH.cons (o := ({ dst := some 13, op := Op.alloc 30, type := 0, pos := "law.go:36", after := #[], guard := none } : Oper)) rfl (fun K hK => ?_) AllReadyH.nil))
    · skip
      go_simp
      with_reducible refine (Hq.out _ _ hq).mono ?_
      rintro e v ⟨Aq, cq, rfl, q0, hb2⟩
      obtain ⟨dq, oq, Bq, mq, kq, eq, x_q, q⟩ := q0.row (k := 0) (by omega)
      subst eq
      obtain rfl : mq = 3 := q.len.symm
      replace q : Pn v Bq 3 kq [3, 0, 1] 1 := q
      have yq : v.cell? ⟨dq, oq, none⟩ = some (.slice Bq 3 kq) := x_q.al
      (try go_wp2_with fail)
      refine hK.out _ _ trivial (fun _ => ?_)
      clear hK K
      (try simp only [List.setIfInBounds_toArray, List.set_cons_zero, List.set_cons_succ])
      exact K4200 _ (bthen hv hb2) _ _ _ _ _ (p.keep hb2) _ _ _ _ _ _ _ _ yq q x_q.lt _ _
    · skip
      go_simp
      refine hK.out _ _ trivial (fun _ => ?_)
      clear hK K
      (try simp only [List.setIfInBounds_toArray, List.set_cons_zero, List.set_cons_succ])
      exact K4101 _ (bA hv) _ _ _ _ _ (p.keep (below_alloc _ _)) _ _ _ _ (up_al hq) _ _ (heap_alloc_new _ _) hv.size
  have K3200 : ∀ (w : World) (hv : Below w0.heap.size w0 w) (x54 : Value) (x55 : Value) (dp op kp : Nat) (Bp : Option Addr) (x57 : Value) (yp : w.cell? ⟨dp, op, none⟩ = some (.slice Bp 2 kp)) (p : Pn w Bp 2 kp [1, 2] 1) (lp : dp < w.heap.size) (x58 : Value) (dq oq kq : Nat) (Bq : Option Addr) (cq : Nat) (x60 : Value) (x61 : Value) (yq : w.cell? ⟨dq, oq, none⟩ = some (.slice Bq 3 kq)) (q : Pn w Bq 3 kq [3, 0, 1] 1) (lq : dq < w.heap.size) (x62 : Value) (x13 : Value), wpAnyH Tryz.prog .any R7o Q (fun _ => True) 6 #[true, true, true, false, true, true, false, false, false, false, false] { tmps := #[t0, t1, t2, t3, t4, t5, t6, t7, t8, t9, t10, t11, t12, x13, t14, t15, t16, t17, t18, t19, t20, t21, t22, t23, t24, t25, t26, t27, t28, t29, t30, t31, t32, t33, t34, t35, t36, t37, t38, t39, t40, t41, t42, t43, t44, t45, t46, t47, t48, t49, t50, t51, t52, t53, x54, x55, .pointer (some ⟨dp, op, none⟩), x57, x58, .slice (some ⟨dq, oq, none⟩) 1 cq, x60, x61, x62, t63, t64, t65, t66, t67, t68, t69, t70, t71, t72, t73, t74, t75, t76, t77, t78, t79, t80, t81, t82, t83, t84, t85, t86, t87, t88, t89, t90, t91, t92, t93, t94, t95, t96, t97, t98, t99, t100, t101, t102, t103, t104, t105, t106, t107, t108, t109, t110, t111, t112, t113, t114, t115, t116, t117, t118, t119, t120, t121], defers := [] } w := by
    intro w hv x54 x55 dp op kp Bp x57 yp p lp x58 dq oq kq Bq cq x60 x61 yq q lq x62 x13
    refine wpAnyH_ready (rs := [3, 6, 9]) (by kernel_rfl) (by simp) ?_
    refine (AllReadyH.cons (o := ({ dst := some 57, op := Op.load 22 (Operand.tmp 56), type := 22, pos := "law.go:36", after := #[{ on := 2, ground := Ground.data }], guard := none } : Oper)) rfl (fun K hK => ?_) (AllReadyH.cons (o := ({ dst := some 60, op := Op.indexAddr 35 (Operand.tmp 59) (Operand.const (Value.int IntKind.i64 0)), type := 0, pos := "law.go:36", after := #[{ on := 5, ground := Ground.data }], guard := none } : Oper)) rfl (fun K hK => ?_) (AllReadyH.cons (o := ({ dst := some 13, op := Op.alloc 30, type := 0, pos := "law.go:36", after := #[], guard := none } : Oper)) rfl (fun K hK => ?_) AllReadyH.nil)))
    · skip
      go_simp
      refine hK.out _ _ trivial (fun _ => ?_)
      clear hK K
      (try simp only [List.setIfInBounds_toArray, List.set_cons_zero, List.set_cons_succ])
      exact K4200 _ hv _ _ _ _ _ p _ _ _ _ _ _ _ _ yq q lq _ _
    · skip
      go_simp
      refine hK.out _ _ trivial (fun _ => ?_)
      clear hK K
      (try simp only [List.setIfInBounds_toArray, List.set_cons_zero, List.set_cons_succ])
      exact K3300 _ hv _ _ _ _ _ _ _ yp p lp _ _ _ _ _ _ _ yq q lq _ _
    · skip
      go_simp
      refine hK.out _ _ trivial (fun _ => ?_)
      clear hK K
      (try simp only [List.setIfInBounds_toArray, List.set_cons_zero, List.set_cons_succ])
      exact K3201 _ (bA hv) _ _ _ _ _ _ _ (((below_alloc _ _).cell (p := ⟨dp, op, none⟩) lp).trans yp) (p.keep (below_alloc _ _)) (Nat.lt_of_lt_of_le lp (below_alloc _ _).size) _ _ _ _ _ _ _ _ (((below_alloc _ _).cell (p := ⟨dq, oq, none⟩) lq).trans yq) (q.keep (below_alloc _ _)) (Nat.lt_of_lt_of_le lq (below_alloc _ _).size) _ _ (heap_alloc_new _ _) hv.size
  have K2300 : ∀ (w : World) (hv : Below w0.heap.size w0 w) (x54 : Value) (dp op kp : Nat) (Bp : Option Addr) (cp : Nat) (x56 : Value) (x57 : Value) (yp : w.cell? ⟨dp, op, none⟩ = some (.slice Bp 2 kp)) (p : Pn w Bp 2 kp [1, 2] 1) (lp : dp < w.heap.size) (x58 : Value) (x59 : Value) (dq oq kq : Nat) (Bq : Option Addr) (x61 : Value) (yq : w.cell? ⟨dq, oq, none⟩ = some (.slice Bq 3 kq)) (q : Pn w Bq 3 kq [3, 0, 1] 1) (lq : dq < w.heap.size) (x62 : Value) (x13 : Value), wpAnyH Tryz.prog .any R7o Q (fun _ => True) 6 #[true, true, false, false, true, true, true, false, false, false, false] { tmps := #[t0, t1, t2, t3, t4, t5, t6, t7, t8, t9, t10, t11, t12, x13, t14, t15, t16, t17, t18, t19, t20, t21, t22, t23, t24, t25, t26, t27, t28, t29, t30, t31, t32, t33, t34, t35, t36, t37, t38, t39, t40, t41, t42, t43, t44, t45, t46, t47, t48, t49, t50, t51, t52, t53, x54, .slice (some ⟨dp, op, none⟩) 1 cp, x56, x57, x58, x59, .pointer (some ⟨dq, oq, none⟩), x61, x62, t63, t64, t65, t66, t67, t68, t69, t70, t71, t72, t73, t74, t75, t76, t77, t78, t79, t80, t81, t82, t83, t84, t85, t86, t87, t88, t89, t90, t91, t92, t93, t94, t95, t96, t97, t98, t99, t100, t101, t102, t103, t104, t105, t106, t107, t108, t109, t110, t111, t112, t113, t114, t115, t116, t117, t118, t119, t120, t121], defers := [] } w := by
    intro w hv x54 dp op kp Bp cp x56 x57 yp p lp x58 x59 dq oq kq Bq x61 yq q lq x62 x13
    refine wpAnyH_ready (rs := [2, 7, 9]) (by kernel_rfl) (by simp) ?_
    refine (AllReadyH.cons (o := ({ dst := some 56, op := Op.indexAddr 35 (Operand.tmp 55) (Operand.const (Value.int IntKind.i64 0)), type := 0, pos := "law.go:36", after := #[{ on := 1, ground := Ground.data }], guard := none } : Oper)) rfl (fun K hK => ?_) (AllReadyH.cons (o := ({ dst := some 61, op := Op.load 22 (Operand.tmp 60), type := 22, pos := "law.go:36", after := #[{ on := 6, ground := Ground.data }], guard := none } : Oper)) rfl (fun K hK => ?_) (AllReadyH.cons (o := ({ dst := some 13, op := Op.alloc 30, type := 0, pos := "law.go:36", after := #[], guard := none } : Oper)) rfl (fun K hK => ?_) AllReadyH.nil)))
    · skip
      go_simp
      refine hK.out _ _ trivial (fun _ => ?_)
      clear hK K
      (try simp only [List.setIfInBounds_toArray, List.set_cons_zero, List.set_cons_succ])
      exact K3300 _ hv _ _ _ _ _ _ _ yp p lp _ _ _ _ _ _ _ yq q lq _ _
    · skip
      go_simp
      refine hK.out _ _ trivial (fun _ => ?_)
      clear hK K
      (try simp only [List.setIfInBounds_toArray, List.set_cons_zero, List.set_cons_succ])
      exact K2400 _ hv _ _ _ _ _ _ _ _ yp p lp _ _ _ _ _ q _ _
    · skip
      go_simp
      refine hK.out _ _ trivial (fun _ => ?_)
      clear hK K
      (try simp only [List.setIfInBounds_toArray, List.set_cons_zero, List.set_cons_succ])
      exact K2301 _ (bA hv) _ _ _ _ _ _ _ _ (((below_alloc _ _).cell (p := ⟨dp, op, none⟩) lp).trans yp) (p.keep (below_alloc _ _)) (Nat.lt_of_lt_of_le lp (below_alloc _ _).size) _ _ _ _ _ _ _ (((below_alloc _ _).cell (p := ⟨dq, oq, none⟩) lq).trans yq) (q.keep (below_alloc _ _)) (Nat.lt_of_lt_of_le lq (below_alloc _ _).size) _ _ (heap_alloc_new _ _) hv.size
  have K3001 : ∀ (w : World) (hv : Below w0.heap.size w0 w) (x54 : Value) (x55 : Value) (dp op kp : Nat) (Bp : Option Addr) (x57 : Value) (yp : w.cell? ⟨dp, op, none⟩ = some (.slice Bp 2 kp)) (p : Pn w Bp 2 kp [1, 2] 1) (lp : dp < w.heap.size) (x58 : Value) (x59 : Value) (x60 : Value) (x61 : Value) (x62 : Value) (gr : Nat) (xr : w.heap[gr]? = some (.cells #[.bool false, .slice none 0 0] 30)) (hg : w0.heap.size ≤ gr), wpAnyH Tryz.prog .any R7o Q (fun _ => True) 7 #[true, true, true, false, false, false, false, false, false, true, false] { tmps := #[t0, t1, t2, t3, t4, t5, t6, t7, t8, t9, t10, t11, t12, .pointer (some ⟨gr, 0, none⟩), t14, t15, t16, t17, t18, t19, t20, t21, t22, t23, t24, t25, t26, t27, t28, t29, t30, t31, t32, t33, t34, t35, t36, t37, t38, t39, t40, t41, t42, t43, t44, t45, t46, t47, t48, t49, t50, t51, t52, t53, x54, x55, .pointer (some ⟨dp, op, none⟩), x57, x58, x59, x60, x61, x62, t63, t64, t65, t66, t67, t68, t69, t70, t71, t72, t73, t74, t75, t76, t77, t78, t79, t80, t81, t82, t83, t84, t85, t86, t87, t88, t89, t90, t91, t92, t93, t94, t95, t96, t97, t98, t99, t100, t101, t102, t103, t104, t105, t106, t107, t108, t109, t110, t111, t112, t113, t114, t115, t116, t117, t118, t119, t120, t121], defers := [] } w := by
    intro w hv x54 x55 dp op kp Bp x57 yp p lp x58 x59 x60 x61 x62 gr xr hg
    refine wpAnyH_ready (rs := [3, 4]) (by kernel_rfl) (by simp) ?_
    refine (AllReadyH.cons (o := ({ dst := some 57, op := Op.load 22 (Operand.tmp 56), type := 22, pos := "law.go:36", after := #[{ on := 2, ground := Ground.data }], guard := none } : Oper)) rfl (fun K hK => ?_) (AllReadyH.cons (o := ({ dst := some 58, op := Op.buildSlice 95 3 #[(0, Operand.const (Value.int IntKind.i64 3)), (1, Operand.const (Value.int IntKind.i64 0)), (2, Operand.const (Value.int IntKind.i64 1))], type := 95, pos := "law.go:36", after := #[], guard := none } : Oper)) rfl (fun K hK => ?_) AllReadyH.nil))
    · skip
      go_simp
      refine hK.out _ _ trivial (fun _ => ?_)
      clear hK K
      (try simp only [List.setIfInBounds_toArray, List.set_cons_zero, List.set_cons_succ])
      exact K4001 _ hv _ _ _ _ _ p _ _ _ _ _ _ xr hg
    · skip
      go_simp
      refine hK.out _ _ trivial (fun _ => ?_)
      clear hK K
      (try simp only [List.setIfInBounds_toArray, List.set_cons_zero, List.set_cons_succ])
      exact K3101 _ (bA hv) _ _ _ _ _ _ _ (((below_alloc _ _).cell (p := ⟨dp, op, none⟩) lp).trans yp) (p.keep (below_alloc _ _)) (Nat.lt_of_lt_of_le lp (below_alloc _ _).size) _ _ _ _ (heap_alloc_new _ _) _ _ (up_al xr) hg
  have K2101 : ∀ (w : World) (hv : Below w0.heap.size w0 w) (x54 : Value) (dp op kp : Nat) (Bp : Option Addr) (cp : Nat) (x56 : Value) (x57 : Value) (yp : w.cell? ⟨dp, op, none⟩ = some (.slice Bp 2 kp)) (p : Pn w Bp 2 kp [1, 2] 1) (lp : dp < w.heap.size) (gq : Nat) (x59 : Value) (x60 : Value) (x61 : Value) (hq : w.heap[gq]? = some (.cells #[.int .i64 3, .int .i64 0, .int .i64 1] 2)) (x62 : Value) (gr : Nat) (xr : w.heap[gr]? = some (.cells #[.bool false, .slice none 0 0] 30)) (hg : w0.heap.size ≤ gr), wpAnyH Tryz.prog .any R7o Q (fun _ => True) 7 #[true, true, false, false, true, false, false, false, false, true, false] { tmps := #[t0, t1, t2, t3, t4, t5, t6, t7, t8, t9, t10, t11, t12, .pointer (some ⟨gr, 0, none⟩), t14, t15, t16, t17, t18, t19, t20, t21, t22, t23, t24, t25, t26, t27, t28, t29, t30, t31, t32, t33, t34, t35, t36, t37, t38, t39, t40, t41, t42, t43, t44, t45, t46, t47, t48, t49, t50, t51, t52, t53, x54, .slice (some ⟨dp, op, none⟩) 1 cp, x56, x57, .slice (some ⟨gq, 0, none⟩) 3 3, x59, x60, x61, x62, t63, t64, t65, t66, t67, t68, t69, t70, t71, t72, t73, t74, t75, t76, t77, t78, t79, t80, t81, t82, t83, t84, t85, t86, t87, t88, t89, t90, t91, t92, t93, t94, t95, t96, t97, t98, t99, t100, t101, t102, t103, t104, t105, t106, t107, t108, t109, t110, t111, t112, t113, t114, t115, t116, t117, t118, t119, t120, t121], defers := [] } w := by
    intro w hv x54 dp op kp Bp cp x56 x57 yp p lp gq x59 x60 x61 hq x62 gr xr hg
    refine wpAnyH_ready (rs := [2, 5]) (by kernel_rfl) (by simp) ?_
    refine (AllReadyH.cons (o := ({ dst := some 56, op := Op.indexAddr 35 (Operand.tmp 55) (Operand.const (Value.int IntKind.i64 0)), type := 0, pos := "law.go:36", after := #[{ on := 1, ground := Ground.data }], guard := none } : Oper)) rfl (fun K hK => ?_) (AllReadyH.cons (o := ({ dst := some 59, op := Op.call { callee := Callee.value (Operand.func 80), args := #[Operand.const (Value.int IntKind.i64 3), Operand.tmp 58], argTypes := #[3, 95] }, type := 35, pos := "law.go:36", after := #[{ on := 4, ground := Ground.data }, { on := 1, ground := Ground.chain }], guard := none } : Oper)) rfl (fun K hK => ?_) AllReadyH.nil))
    · skip
      go_simp
      refine hK.out _ _ trivial (fun _ => ?_)
      clear hK K
      (try simp only [List.setIfInBounds_toArray, List.set_cons_zero, List.set_cons_succ])
      exact K3101 _ hv _ _ _ _ _ _ _ yp p lp _ _ _ _ hq _ _ xr hg
    · skip
      go_simp
      with_reducible refine (Hq.out _ _ hq).mono ?_
      rintro e v ⟨Aq, cq, rfl, q0, hb2⟩
      obtain ⟨dq, oq, Bq, mq, kq, eq, x_q, q⟩ := q0.row (k := 0) (by omega)
      subst eq
      obtain rfl : mq = 3 := q.len.symm
      replace q : Pn v Bq 3 kq [3, 0, 1] 1 := q
      have yq : v.cell? ⟨dq, oq, none⟩ = some (.slice Bq 3 kq) := x_q.al
      (try go_wp2_with fail)
      refine hK.out _ _ trivial (fun _ => ?_)
      clear hK K
      (try simp only [List.setIfInBounds_toArray, List.set_cons_zero, List.set_cons_succ])
      exact K2201 _ (bthen hv hb2) _ _ _ _ _ _ _ _ ((hb2.cell (p := ⟨dp, op, none⟩) lp).trans yp) (p.keep hb2) (Nat.lt_of_lt_of_le lp hb2.size) _ _ _ _ _ _ _ _ yq q x_q.lt _ _ (keepB hb2 xr) hg
  have K4000 : ∀ (w : World) (hv : Below w0.heap.size w0 w) (x54 : Value) (x55 : Value) (x56 : Value) (kp : Nat) (Bp : Option Addr) (p : Pn w Bp 2 kp [1, 2] 1) (x58 : Value) (x59 : Value) (x60 : Value) (x61 : Value) (x62 : Value) (x13 : Value), wpAnyH Tryz.prog .any R7o Q (fun _ => True) 7 #[true, true, true, true, false, false, false, false, false, false, false] { tmps := #[t0, t1, t2, t3, t4, t5, t6, t7, t8, t9, t10, t11, t12, x13, t14, t15, t16, t17, t18, t19, t20, t21, t22, t23, t24, t25, t26, t27, t28, t29, t30, t31, t32, t33, t34, t35, t36, t37, t38, t39, t40, t41, t42, t43, t44, t45, t46, t47, t48, t49, t50, t51, t52, t53, x54, x55, x56, .slice Bp 2 kp, x58, x59, x60, x61, x62, t63, t64, t65, t66, t67, t68, t69, t70, t71, t72, t73, t74, t75, t76, t77, t78, t79, t80, t81, t82, t83, t84, t85, t86, t87, t88, t89, t90, t91, t92, t93, t94, t95, t96, t97, t98, t99, t100, t101, t102, t103, t104, t105, t106, t107, t108, t109, t110, t111, t112, t113, t114, t115, t116, t117, t118, t119, t120, t121], defers := [] } w := by
    intro w hv x54 x55 x56 kp Bp p x58 x59 x60 x61 x62 x13
    refine wpAnyH_ready (rs := [4, 9]) (by kernel_rfl) (by simp) ?_
    refine (AllReadyH.cons (o := ({ dst := some 58, op := Op.buildSlice 95 3 #[(0, Operand.const (Value.int IntKind.i64 3)), (1, Operand.const (Value.int IntKind.i64 0)), (2, Operand.const (Value.int IntKind.i64 1))], type := 95, pos := "law.go:36", after := #[], guard := none } : Oper)) rfl (fun K hK => ?_) (AllReadyH.cons (o := ({ dst := some 13, op := Op.alloc 30, type := 0, pos := "law.go:36", after := #[], guard := none } : Oper)) rfl (fun K hK => ?_) AllReadyH.nil))
    · skip
      go_simp
      refine hK.out _ _ trivial (fun _ => ?_)
      clear hK K
      (try simp only [List.setIfInBounds_toArray, List.set_cons_zero, List.set_cons_succ])
      exact K4100 _ (bA hv) _ _ _ _ _ (p.keep (below_alloc _ _)) _ _ _ _ (heap_alloc_new _ _) _ _
    · skip
      go_simp
      refine hK.out _ _ trivial (fun _ => ?_)
      clear hK K
      (try simp only [List.setIfInBounds_toArray, List.set_cons_zero, List.set_cons_succ])
      exact K4001 _ (bA hv) _ _ _ _ _ (p.keep (below_alloc _ _)) _ _ _ _ _ _ (heap_alloc_new _ _) hv.size
  have K3100 : ∀ (w : World) (hv : Below w0.heap.size w0 w) (x54 : Value) (x55 : Value) (dp op kp : Nat) (Bp : Option Addr) (x57 : Value) (yp : w.cell? ⟨dp, op, none⟩ = some (.slice Bp 2 kp)) (p : Pn w Bp 2 kp [1, 2] 1) (lp : dp < w.heap.size) (gq : Nat) (x59 : Value) (x60 : Value) (x61 : Value) (hq : w.heap[gq]? = some (.cells #[.int .i64 3, .int .i64 0, .int .i64 1] 2)) (x62 : Value) (x13 : Value), wpAnyH Tryz.prog .any R7o Q (fun _ => True) 7 #[true, true, true, false, true, false, false, false, false, false, false] { tmps := #[t0, t1, t2, t3, t4, t5, t6, t7, t8, t9, t10, t11, t12, x13, t14, t15, t16, t17, t18, t19, t20, t21, t22, t23, t24, t25, t26, t27, t28, t29, t30, t31, t32, t33, t34, t35, t36, t37, t38, t39, t40, t41, t42, t43, t44, t45, t46, t47, t48, t49, t50, t51, t52, t53, x54, x55, .pointer (some ⟨dp, op, none⟩), x57, .slice (some ⟨gq, 0, none⟩) 3 3, x59, x60, x61, x62, t63, t64, t65, t66, t67, t68, t69, t70, t71, t72, t73, t74, t75, t76, t77, t78, t79, t80, t81, t82, t83, t84, t85, t86, t87, t88, t89, t90, t91, t92, t93, t94, t95, t96, t97, t98, t99, t100, t101, t102, t103, t104, t105, t106, t107, t108, t109, t110, t111, t112, t113, t114, t115, t116, t117, t118, t119, t120, t121], defers := [] } w := by
    intro w hv x54 x55 dp op kp Bp x57 yp p lp gq x59 x60 x61 hq x62 x13
    refine wpAnyH_ready (rs := [3, 5, 9]) (by kernel_rfl) (by simp) ?_
    refine (AllReadyH.cons (o := ({ dst := some 57, op := Op.load 22 (Operand.tmp 56), type := 22, pos := "law.go:36", after := #[{ on := 2, ground := Ground.data }], guard := none } : Oper)) rfl (fun K hK => ?_) (AllReadyH.cons (o := ({ dst := some 59, op := Op.call { callee := Callee.value (Operand.func 80), args := #[Operand.const (Value.int IntKind.i64 3), Operand.tmp 58], argTypes := #[3, 95] }, type := 35, pos := "law.go:36", after := #[{ on := 4, ground := Ground.data }, { on := 1, ground := Ground.chain }], guard := none } : Oper)) rfl (fun K hK => ?_) (AllReadyH.cons (o := ({ dst := some 13, op := Op.alloc 30, type := 0, pos := "law.go:36", after := #[], guard := none } : Oper)) rfl (fun K hK => ?_) AllReadyH.nil)))
    · skip
      go_simp
      refine hK.out _ _ trivial (fun _ => ?_)
      clear hK K
      (try simp only [List.setIfInBounds_toArray, List.set_cons_zero, List.set_cons_succ])
      exact K4100 _ hv _ _ _ _ _ p _ _ _ _ hq _ _
    · skip
      go_simp
      with_reducible refine (Hq.out _ _ hq).mono ?_
      rintro e v ⟨Aq, cq, rfl, q0, hb2⟩
      obtain ⟨dq, oq, Bq, mq, kq, eq, x_q, q⟩ := q0.row (k := 0) (by omega)
      subst eq
      obtain rfl : mq = 3 := q.len.symm
      replace q : Pn v Bq 3 kq [3, 0, 1] 1 := q
      have yq : v.cell? ⟨dq, oq, none⟩ = some (.slice Bq 3 kq) := x_q.al
      (try go_wp2_with fail)
      refine hK.out _ _ trivial (fun _ => ?_)
      clear hK K
      (try simp only [List.setIfInBounds_toArray, List.set_cons_zero, List.set_cons_succ])
      exact K3200 _ (bthen hv hb2) _ _ _ _ _ _ _ ((hb2.cell (p := ⟨dp, op, none⟩) lp).trans yp) (p.keep hb2) (Nat.lt_of_lt_of_le lp hb2.size) _ _ _ _ _ _ _ _ yq q x_q.lt _ _
    · skip
      go_simp
      refine hK.out _ _ trivial (fun _ => ?_)
      clear hK K
      (try simp only [List.setIfInBounds_toArray, List.set_cons_zero, List.set_cons_succ])
      exact K3101 _ (bA hv) _ _ _ _ _ _ _ (((below_alloc _ _).cell (p := ⟨dp, op, none⟩) lp).trans yp) (p.keep (below_alloc _ _)) (Nat.lt_of_lt_of_le lp (below_alloc _ _).size) _ _ _ _ (up_al hq) _ _ (heap_alloc_new _ _) hv.size
  have K2200 : ∀ (w : World) (hv : Below w0.heap.size w0 w) (x54 : Value) (dp op kp : Nat) (Bp : Option Addr) (cp : Nat) (x56 : Value) (x57 : Value) (yp : w.cell? ⟨dp, op, none⟩ = some (.slice Bp 2 kp)) (p : Pn w Bp 2 kp [1, 2] 1) (lp : dp < w.heap.size) (x58 : Value) (dq oq kq : Nat) (Bq : Option Addr) (cq : Nat) (x60 : Value) (x61 : Value) (yq : w.cell? ⟨dq, oq, none⟩ = some (.slice Bq 3 kq)) (q : Pn w Bq 3 kq [3, 0, 1] 1) (lq : dq < w.heap.size) (x62 : Value) (x13 : Value), wpAnyH Tryz.prog .any R7o Q (fun _ => True) 7 #[true, true, false, false, true, true, false, false, false, false, false] { tmps := #[t0, t1, t2, t3, t4, t5, t6, t7, t8, t9, t10, t11, t12, x13, t14, t15, t16, t17, t18, t19, t20, t21, t22, t23, t24, t25, t26, t27, t28, t29, t30, t31, t32, t33, t34, t35, t36, t37, t38, t39, t40, t41, t42, t43, t44, t45, t46, t47, t48, t49, t50, t51, t52, t53, x54, .slice (some ⟨dp, op, none⟩) 1 cp, x56, x57, x58, .slice (some ⟨dq, oq, none⟩) 1 cq, x60, x61, x62, t63, t64, t65, t66, t67, t68, t69, t70, t71, t72, t73, t74, t75, t76, t77, t78, t79, t80, t81, t82, t83, t84, t85, t86, t87, t88, t89, t90, t91, t92, t93, t94, t95, t96, t97, t98, t99, t100, t101, t102, t103, t104, t105, t106, t107, t108, t109, t110, t111, t112, t113, t114, t115, t116, t117, t118, t119, t120, t121], defers := [] } w := by
    intro w hv x54 dp op kp Bp cp x56 x57 yp p lp x58 dq oq kq Bq cq x60 x61 yq q lq x62 x13
    refine wpAnyH_ready (rs := [2, 6, 9]) (by kernel_rfl) (by simp) ?_
    refine (AllReadyH.cons (o := ({ dst := some 56, op := Op.indexAddr 35 (Operand.tmp 55) (Operand.const (Value.int IntKind.i64 0)), type := 0, pos := "law.go:36", after := #[{ on := 1, ground := Ground.data }], guard := none } : Oper)) rfl (fun K hK => ?_) (AllReadyH.cons (o := ({ dst := some 60, op := Op.indexAddr 35 (Operand.tmp 59) (Operand.const (Value.int IntKind.i64 0)), type := 0, pos := "law.go:36", after := #[{ on := 5, ground := Ground.data }], guard := none } : Oper)) rfl (fun K hK => ?_) (AllReadyH.cons (o := ({ dst := some 13, op := Op.alloc 30, type := 0, pos := "law.go:36", after := #[], guard := none } : Oper)) rfl (fun K hK => ?_) AllReadyH.nil)))
    · skip
      go_simp
      refine hK.out _ _ trivial (fun _ => ?_)
      clear hK K
      (try simp only [List.setIfInBounds_toArray, List.set_cons_zero, List.set_cons_succ])
      exact K3200 _ hv _ _ _ _ _ _ _ yp p lp _ _ _ _ _ _ _ _ yq q lq _ _
    · skip
      go_simp
      refine hK.out _ _ trivial (fun _ => ?_)
      clear hK K
      (try simp only [List.setIfInBounds_toArray, List.set_cons_zero, List.set_cons_succ])
      exact K2300 _ hv _ _ _ _ _ _ _ _ yp p lp _ _ _ _ _ _ _ yq q lq _ _
    · skip
      go_simp
      refine hK.out _ _ trivial (fun _ => ?_)
      clear hK K
      (try simp only [List.setIfInBounds_toArray, List.set_cons_zero, List.set_cons_succ])
      exact K2201 _ (bA hv) _ _ _ _ _ _ _ _ (((below_alloc _ _).cell (p := ⟨dp, op, none⟩) lp).trans yp) (p.keep (below_alloc _ _)) (Nat.lt_of_lt_of_le lp (below_alloc _ _).size) _ _ _ _ _ _ _ _ (((below_alloc _ _).cell (p := ⟨dq, oq, none⟩) lq).trans yq) (q.keep (below_alloc _ _)) (Nat.lt_of_lt_of_le lq (below_alloc _ _).size) _ _ (heap_alloc_new _ _) hv.size
  have K2001 : ∀ (w : World) (hv : Below w0.heap.size w0 w) (x54 : Value) (dp op kp : Nat) (Bp : Option Addr) (cp : Nat) (x56 : Value) (x57 : Value) (yp : w.cell? ⟨dp, op, none⟩ = some (.slice Bp 2 kp)) (p : Pn w Bp 2 kp [1, 2] 1) (lp : dp < w.heap.size) (x58 : Value) (x59 : Value) (x60 : Value) (x61 : Value) (x62 : Value) (gr : Nat) (xr : w.heap[gr]? = some (.cells #[.bool false, .slice none 0 0] 30)) (hg : w0.heap.size ≤ gr), wpAnyH Tryz.prog .any R7o Q (fun _ => True) 8 #[true, true, false, false, false, false, false, false, false, true, false] { tmps := #[t0, t1, t2, t3, t4, t5, t6, t7, t8, t9, t10, t11, t12, .pointer (some ⟨gr, 0, none⟩), t14, t15, t16, t17, t18, t19, t20, t21, t22, t23, t24, t25, t26, t27, t28, t29, t30, t31, t32, t33, t34, t35, t36, t37, t38, t39, t40, t41, t42, t43, t44, t45, t46, t47, t48, t49, t50, t51, t52, t53, x54, .slice (some ⟨dp, op, none⟩) 1 cp, x56, x57, x58, x59, x60, x61, x62, t63, t64, t65, t66, t67, t68, t69, t70, t71, t72, t73, t74, t75, t76, t77, t78, t79, t80, t81, t82, t83, t84, t85, t86, t87, t88, t89, t90, t91, t92, t93, t94, t95, t96, t97, t98, t99, t100, t101, t102, t103, t104, t105, t106, t107, t108, t109, t110, t111, t112, t113, t114, t115, t116, t117, t118, t119, t120, t121], defers := [] } w := by
    intro w hv x54 dp op kp Bp cp x56 x57 yp p lp x58 x59 x60 x61 x62 gr xr hg
    refine wpAnyH_ready (rs := [2, 4]) (by kernel_rfl) (by simp) ?_
    refine (AllReadyH.cons (o := ({ dst := some 56, op := Op.indexAddr 35 (Operand.tmp 55) (Operand.const (Value.int IntKind.i64 0)), type := 0, pos := "law.go:36", after := #[{ on := 1, ground := Ground.data }], guard := none } : Oper)) rfl (fun K hK => ?_) (AllReadyH.cons (o := ({ dst := some 58, op := Op.buildSlice 95 3 #[(0, Operand.const (Value.int IntKind.i64 3)), (1, Operand.const (Value.int IntKind.i64 0)), (2, Operand.const (Value.int IntKind.i64 1))], type := 95, pos := "law.go:36", after := #[], guard := none } : Oper)) rfl (fun K hK => ?_) AllReadyH.nil))
    · skip
      go_simp
      refine hK.out _ _ trivial (fun _ => ?_)
      clear hK K
      (try simp only [List.setIfInBounds_toArray, List.set_cons_zero, List.set_cons_succ])
      exact K3001 _ hv _ _ _ _ _ _ _ yp p lp _ _ _ _ _ _ xr hg
    · skip
      go_simp
      refine hK.out _ _ trivial (fun _ => ?_)
      clear hK K
      (try simp only [List.setIfInBounds_toArray, List.set_cons_zero, List.set_cons_succ])
      exact K2101 _ (bA hv) _ _ _ _ _ _ _ _ (((below_alloc _ _).cell (p := ⟨dp, op, none⟩) lp).trans yp) (p.keep (below_alloc _ _)) (Nat.lt_of_lt_of_le lp (below_alloc _ _).size) _ _ _ _ (heap_alloc_new _ _) _ _ (up_al xr) hg
  have K1101 : ∀ (w : World) (hv : Below w0.heap.size w0 w) (gp : Nat) (x55 : Value) (x56 : Value) (x57 : Value) (hp : w.heap[gp]? = some (.cells #[.int .i64 1, .int .i64 2] 2)) (gq : Nat) (x59 : Value) (x60 : Value) (x61 : Value) (hq : w.heap[gq]? = some (.cells #[.int .i64 3, .int .i64 0, .int .i64 1] 2)) (x62 : Value) (gr : Nat) (xr : w.heap[gr]? = some (.cells #[.bool false, .slice none 0 0] 30)) (hg : w0.heap.size ≤ gr), wpAnyH Tryz.prog .any R7o Q (fun _ => True) 8 #[true, false, false, false, true, false, false, false, false, true, false] { tmps := #[t0, t1, t2, t3, t4, t5, t6, t7, t8, t9, t10, t11, t12, .pointer (some ⟨gr, 0, none⟩), t14, t15, t16, t17, t18, t19, t20, t21, t22, t23, t24, t25, t26, t27, t28, t29, t30, t31, t32, t33, t34, t35, t36, t37, t38, t39, t40, t41, t42, t43, t44, t45, t46, t47, t48, t49, t50, t51, t52, t53, .slice (some ⟨gp, 0, none⟩) 2 2, x55, x56, x57, .slice (some ⟨gq, 0, none⟩) 3 3, x59, x60, x61, x62, t63, t64, t65, t66, t67, t68, t69, t70, t71, t72, t73, t74, t75, t76, t77, t78, t79, t80, t81, t82, t83, t84, t85, t86, t87, t88, t89, t90, t91, t92, t93, t94, t95, t96, t97, t98, t99, t100, t101, t102, t103, t104, t105, t106, t107, t108, t109, t110, t111, t112, t113, t114, t115, t116, t117, t118, t119, t120, t121], defers := [] } w := by
    intro w hv gp x55 x56 x57 hp gq x59 x60 x61 hq x62 gr xr hg
    refine wpAnyH_ready (rs := [1]) (by kernel_rfl) (by simp) ?_
    refine (AllReadyH.cons (o := ({ dst := some 55, op := Op.call { callee := Callee.value (Operand.func 80), args := #[Operand.const (Value.int IntKind.i64 2), Operand.tmp 54], argTypes := #[3, 95] }, type := 35, pos := "law.go:36", after := #[{ on := 0, ground := Ground.data }], guard := none } : Oper)) rfl (fun K hK => ?_) AllReadyH.nil)
    · skip
      go_simp
      with_reducible refine (Hp.out _ _ hp).mono ?_
      rintro e v ⟨Ap, cp, rfl, p0, hb2⟩
      obtain ⟨dp, op, Bp, mp, kp, ep, x_p, p⟩ := p0.row (k := 0) (by omega)
      subst ep
      obtain rfl : mp = 2 := p.len.symm
      replace p : Pn v Bp 2 kp [1, 2] 1 := p
      have yp : v.cell? ⟨dp, op, none⟩ = some (.slice Bp 2 kp) := x_p.al
      (try go_wp2_with fail)
      refine hK.out _ _ trivial (fun _ => ?_)
      clear hK K
      (try simp only [List.setIfInBounds_toArray, List.set_cons_zero, List.set_cons_succ])
      exact K2101 _ (bthen hv hb2) _ _ _ _ _ _ _ _ yp p x_p.lt _ _ _ _ (keepB hb2 hq) _ _ (keepB hb2 xr) hg
  have K3000 : ∀ (w : World) (hv : Below w0.heap.size w0 w) (x54 : Value) (x55 : Value) (dp op kp : Nat) (Bp : Option Addr) (x57 : Value) (yp : w.cell? ⟨dp, op, none⟩ = some (.slice Bp 2 kp)) (p : Pn w Bp 2 kp [1, 2] 1) (lp : dp < w.heap.size) (x58 : Value) (x59 : Value) (x60 : Value) (x61 : Value) (x62 : Value) (x13 : Value), wpAnyH Tryz.prog .any R7o Q (fun _ => True) 8 #[true, true, true, false, false, false, false, false, false, false, false] { tmps := #[t0, t1, t2, t3, t4, t5, t6, t7, t8, t9, t10, t11, t12, x13, t14, t15, t16, t17, t18, t19, t20, t21, t22, t23, t24, t25, t26, t27, t28, t29, t30, t31, t32, t33, t34, t35, t36, t37, t38, t39, t40, t41, t42, t43, t44, t45, t46, t47, t48, t49, t50, t51, t52, t53, x54, x55, .pointer (some ⟨dp, op, none⟩), x57, x58, x59, x60, x61, x62, t63, t64, t65, t66, t67, t68, t69, t70, t71, t72, t73, t74, t75, t76, t77, t78, t79, t80, t81, t82, t83, t84, t85, t86, t87, t88, t89, t90, t91, t92, t93, t94, t95, t96, t97, t98, t99, t100, t101, t102, t103, t104, t105, t106, t107, t108, t109, t110, t111, t112, t113, t114, t115, t116, t117, t118, t119, t120, t121], defers := [] } w := by
    intro w hv x54 x55 dp op kp Bp x57 yp p lp x58 x59 x60 x61 x62 x13
    refine wpAnyH_ready (rs := [3, 4, 9]) (by kernel_rfl) (by simp) ?_
    refine (AllReadyH.cons (o := ({ dst := some 57, op := Op.load 22 (Operand.tmp 56), type := 22, pos := "law.go:36", after := #[{ on := 2, ground := Ground.data }], guard := none } : Oper)) rfl (fun K hK => ?_) (AllReadyH.cons (o := ({ dst := some 58, op := Op.buildSlice 95 3 #[(0, Operand.const (Value.int IntKind.i64 3)), (1, Operand.const (Value.int IntKind.i64 0)), (2, Operand.const (Value.int IntKind.i64 1))], type := 95, pos := "law.go:36", after := #[], guard := none } : Oper)) rfl (fun K hK => ?_) (AllReadyH.cons (o := ({ dst := some 13, op := Op.alloc 30, type := 0, pos := "law.go:36", after := #[], guard := none } : Oper)) rfl (fun K hK => ?_) AllReadyH.nil)))
    · skip
      go_simp
      refine hK.out _ _ trivial (fun _ => ?_)
      clear hK K
      (try simp only [List.setIfInBounds_toArray, List.set_cons_zero, List.set_cons_succ])
      exact K4000 _ hv _ _ _ _ _ p _ _ _ _ _ _
    · skip
      go_simp
      refine hK.out _ _ trivial (fun _ => ?_)
      clear hK K
      (try simp only [List.setIfInBounds_toArray, List.set_cons_zero, List.set_cons_succ])
      exact K3100 _ (bA hv) _ _ _ _ _ _ _ (((below_alloc _ _).cell (p := ⟨dp, op, none⟩) lp).trans yp) (p.keep (below_alloc _ _)) (Nat.lt_of_lt_of_le lp (below_alloc _ _).size) _ _ _ _ (heap_alloc_new _ _) _ _
    · skip
      go_simp
      refine hK.out _ _ trivial (fun _ => ?_)
      clear hK K
      (try simp only [List.setIfInBounds_toArray, List.set_cons_zero, List.set_cons_succ])
      exact K3001 _ (bA hv) _ _ _ _ _ _ _ (((below_alloc _ _).cell (p := ⟨dp, op, none⟩) lp).trans yp) (p.keep (below_alloc _ _)) (Nat.lt_of_lt_of_le lp (below_alloc _ _).size) _ _ _ _ _ _ (heap_alloc_new _ _) hv.size
  have K2100 : ∀ (w : World) (hv : Below w0.heap.size w0 w) (x54 : Value) (dp op kp : Nat) (Bp : Option Addr) (cp : Nat) (x56 : Value) (x57 : Value) (yp : w.cell? ⟨dp, op, none⟩ = some (.slice Bp 2 kp)) (p : Pn w Bp 2 kp [1, 2] 1) (lp : dp < w.heap.size) (gq : Nat) (x59 : Value) (x60 : Value) (x61 : Value) (hq : w.heap[gq]? = some (.cells #[.int .i64 3, .int .i64 0, .int .i64 1] 2)) (x62 : Value) (x13 : Value), wpAnyH Tryz.prog .any R7o Q (fun _ => True) 8 #[true, true, false, false, true, false, false, false, false, false, false] { tmps := #[t0, t1, t2, t3, t4, t5, t6, t7, t8, t9, t10, t11, t12, x13, t14, t15, t16, t17, t18, t19, t20, t21, t22, t23, t24, t25, t26, t27, t28, t29, t30, t31, t32, t33, t34, t35, t36, t37, t38, t39, t40, t41, t42, t43, t44, t45, t46, t47, t48, t49, t50, t51, t52, t53, x54, .slice (some ⟨dp, op, none⟩) 1 cp, x56, x57, .slice (some ⟨gq, 0, none⟩) 3 3, x59, x60, x61, x62, t63, t64, t65, t66, t67, t68, t69, t70, t71, t72, t73, t74, t75, t76, t77, t78, t79, t80, t81, t82, t83, t84, t85, t86, t87, t88, t89, t90, t91, t92, t93, t94, t95, t96, t97, t98, t99, t100, t101, t102, t103, t104, t105, t106, t107, t108, t109, t110, t111, t112, t113, t114, t115, t116, t117, t118, t119, t120, t121], defers := [] } w := by
    intro w hv x54 dp op kp Bp cp x56 x57 yp p lp gq x59 x60 x61 hq x62 x13
    refine wpAnyH_ready (rs := [2, 5, 9]) (by kernel_rfl) (by simp) ?_
    refine (AllReadyH.cons (o := ({ dst := some 56, op := Op.indexAddr 35 (Operand.tmp 55) (Operand.const (Value.int IntKind.i64 0)), type := 0, pos := "law.go:36", after := #[{ on := 1, ground := Ground.data }], guard := none } : Oper)) rfl (fun K hK => ?_) (AllReadyH.cons (o := ({ dst := some 59, op := Op.call { callee := Callee.value (Operand.func 80), args := #[Operand.const (Value.int IntKind.i64 3), Operand.tmp 58], argTypes := #[3, 95] }, type := 35, pos := "law.go:36", after := #[{ on := 4, ground := Ground.data }, { on := 1, ground := Ground.chain }], guard := none } : Oper)) rfl (fun K hK => ?_) (AllReadyH.cons (o := ({ dst := some 13, op := Op.alloc 30, type := 0, pos := "law.go:36", after := #[], guard := none } : Oper)) rfl (fun K hK => ?_) AllReadyH.nil)))
    · skip
      go_simp
      refine hK.out _ _ trivial (fun _ => ?_)
      clear hK K
      (try simp only [List.setIfInBounds_toArray, List.set_cons_zero, List.set_cons_succ])
      exact K3100 _ hv _ _ _ _ _ _ _ yp p lp _ _ _ _ hq _ _
    · skip
      go_simp
      with_reducible refine (Hq.out _ _ hq).mono ?_
      rintro e v ⟨Aq, cq, rfl, q0, hb2⟩
      obtain ⟨dq, oq, Bq, mq, kq, eq, x_q, q⟩ := q0.row (k := 0) (by omega)
      subst eq
      obtain rfl : mq = 3 := q.len.symm
      replace q : Pn v Bq 3 kq [3, 0, 1] 1 := q
      have yq : v.cell? ⟨dq, oq, none⟩ = some (.slice Bq 3 kq) := x_q.al
      (try go_wp2_with fail)
      refine hK.out _ _ trivial (fun _ => ?_)
      clear hK K
      (try simp only [List.setIfInBounds_toArray, List.set_cons_zero, List.set_cons_succ])
      exact K2200 _ (bthen hv hb2) _ _ _ _ _ _ _ _ ((hb2.cell (p := ⟨dp, op, none⟩) lp).trans yp) (p.keep hb2) (Nat.lt_of_lt_of_le lp hb2.size) _ _ _ _ _ _ _ _ yq q x_q.lt _ _
    · skip
      go_simp
      refine hK.out _ _ trivial (fun _ => ?_)
      clear hK K
      (try simp only [List.setIfInBounds_toArray, List.set_cons_zero, List.set_cons_succ])
      exact K2101 _ (bA hv) _ _ _ _ _ _ _ _ (((below_alloc _ _).cell (p := ⟨dp, op, none⟩) lp).trans yp) (p.keep (below_alloc _ _)) (Nat.lt_of_lt_of_le lp (below_alloc _ _).size) _ _ _ _ (up_al hq) _ _ (heap_alloc_new _ _) hv.size
  have K1001 : ∀ (w : World) (hv : Below w0.heap.size w0 w) (gp : Nat) (x55 : Value) (x56 : Value) (x57 : Value) (hp : w.heap[gp]? = some (.cells #[.int .i64 1, .int .i64 2] 2)) (x58 : Value) (x59 : Value) (x60 : Value) (x61 : Value) (x62 : Value) (gr : Nat) (xr : w.heap[gr]? = some (.cells #[.bool false, .slice none 0 0] 30)) (hg : w0.heap.size ≤ gr), wpAnyH Tryz.prog .any R7o Q (fun _ => True) 9 #[true, false, false, false, false, false, false, false, false, true, false] { tmps := #[t0, t1, t2, t3, t4, t5, t6, t7, t8, t9, t10, t11, t12, .pointer (some ⟨gr, 0, none⟩), t14, t15, t16, t17, t18, t19, t20, t21, t22, t23, t24, t25, t26, t27, t28, t29, t30, t31, t32, t33, t34, t35, t36, t37, t38, t39, t40, t41, t42, t43, t44, t45, t46, t47, t48, t49, t50, t51, t52, t53, .slice (some ⟨gp, 0, none⟩) 2 2, x55, x56, x57, x58, x59, x60, x61, x62, t63, t64, t65, t66, t67, t68, t69, t70, t71, t72, t73, t74, t75, t76, t77, t78, t79, t80, t81, t82, t83, t84, t85, t86, t87, t88, t89, t90, t91, t92, t93, t94, t95, t96, t97, t98, t99, t100, t101, t102, t103, t104, t105, t106, t107, t108, t109, t110, t111, t112, t113, t114, t115, t116, t117, t118, t119, t120, t121], defers := [] } w := by
    intro w hv gp x55 x56 x57 hp x58 x59 x60 x61 x62 gr xr hg
    refine wpAnyH_ready (rs := [1, 4]) (by kernel_rfl) (by simp) ?_
    refine (AllReadyH.cons (o := ({ dst := some 55, op := Op.call { callee := Callee.value (Operand.func 80), args := #[Operand.const (Value.int IntKind.i64 2), Operand.tmp 54], argTypes := #[3, 95] }, type := 35, pos := "law.go:36", after := #[{ on := 0, ground := Ground.data }], guard := none } : Oper)) rfl (fun K hK => ?_) (AllReadyH.cons (o := ({ dst := some 58, op := Op.buildSlice 95 3 #[(0, Operand.const (Value.int IntKind.i64 3)), (1, Operand.const (Value.int IntKind.i64 0)), (2, Operand.const (Value.int IntKind.i64 1))], type := 95, pos := "law.go:36", after := #[], guard := none } : Oper)) rfl (fun K hK => ?_) AllReadyH.nil))
    · skip
      go_simp
      with_reducible refine (Hp.out _ _ hp).mono ?_
      rintro e v ⟨Ap, cp, rfl, p0, hb2⟩
      obtain ⟨dp, op, Bp, mp, kp, ep, x_p, p⟩ := p0.row (k := 0) (by omega)
      subst ep
      obtain rfl : mp = 2 := p.len.symm
      replace p : Pn v Bp 2 kp [1, 2] 1 := p
      have yp : v.cell? ⟨dp, op, none⟩ = some (.slice Bp 2 kp) := x_p.al
      (try go_wp2_with fail)
      refine hK.out _ _ trivial (fun _ => ?_)
      clear hK K
      (try simp only [List.setIfInBounds_toArray, List.set_cons_zero, List.set_cons_succ])
      exact K2001 _ (bthen hv hb2) _ _ _ _ _ _ _ _ yp p x_p.lt _ _ _ _ _ _ (keepB hb2 xr) hg
    · skip
      go_simp
      refine hK.out _ _ trivial (fun _ => ?_)
      clear hK K
      (try simp only [List.setIfInBounds_toArray, List.set_cons_zero, List.set_cons_succ])
      exact K1101 _ (bA hv) _ _ _ _ (up_al hp) _ _ _ _ (heap_alloc_new _ _) _ _ (up_al xr) hg
  have K0101 : ∀ (w : World) (hv : Below w0.heap.size w0 w) (x54 : Value) (x55 : Value) (x56 : Value) (x57 : Value) (gq : Nat) (x59 : Value) (x60 : Value) (x61 : Value) (hq : w.heap[gq]? = some (.cells #[.int .i64 3, .int .i64 0, .int .i64 1] 2)) (x62 : Value) (gr : Nat) (xr : w.heap[gr]? = some (.cells #[.bool false, .slice none 0 0] 30)) (hg : w0.heap.size ≤ gr), wpAnyH Tryz.prog .any R7o Q (fun _ => True) 9 #[false, false, false, false, true, false, false, false, false, true, false] { tmps := #[t0, t1, t2, t3, t4, t5, t6, t7, t8, t9, t10, t11, t12, .pointer (some ⟨gr, 0, none⟩), t14, t15, t16, t17, t18, t19, t20, t21, t22, t23, t24, t25, t26, t27, t28, t29, t30, t31, t32, t33, t34, t35, t36, t37, t38, t39, t40, t41, t42, t43, t44, t45, t46, t47, t48, t49, t50, t51, t52, t53, x54, x55, x56, x57, .slice (some ⟨gq, 0, none⟩) 3 3, x59, x60, x61, x62, t63, t64, t65, t66, t67, t68, t69, t70, t71, t72, t73, t74, t75, t76, t77, t78, t79, t80, t81, t82, t83, t84, t85, t86, t87, t88, t89, t90, t91, t92, t93, t94, t95, t96, t97, t98, t99, t100, t101, t102, t103, t104, t105, t106, t107, t108, t109, t110, t111, t112, t113, t114, t115, t116, t117, t118, t119, t120, t121], defers := [] } w := by
    intro w hv x54 x55 x56 x57 gq x59 x60 x61 hq x62 gr xr hg
    refine wpAnyH_ready (rs := [0]) (by kernel_rfl) (by simp) ?_
    refine (AllReadyH.cons (o := ({ dst := some 54, op := Op.buildSlice 95 2 #[(0, Operand.const (Value.int IntKind.i64 1)), (1, Operand.const (Value.int IntKind.i64 2))], type := 95, pos := "law.go:36", after := #[], guard := none } : Oper)) rfl (fun K hK => ?_) AllReadyH.nil)
    · skip
      go_simp
      refine hK.out _ _ trivial (fun _ => ?_)
      clear hK K
      (try simp only [List.setIfInBounds_toArray, List.set_cons_zero])
      exact K1101 _ (bA hv) _ _ _ _ (heap_alloc_new _ _) _ _ _ _ (up_al hq) _ _ (up_al xr) hg
  have K2000 : ∀ (w : World) (hv : Below w0.heap.size w0 w) (x54 : Value) (dp op kp : Nat) (Bp : Option Addr) (cp : Nat) (x56 : Value) (x57 : Value) (yp : w.cell? ⟨dp, op, none⟩ = some (.slice Bp 2 kp)) (p : Pn w Bp 2 kp [1, 2] 1) (lp : dp < w.heap.size) (x58 : Value) (x59 : Value) (x60 : Value) (x61 : Value) (x62 : Value) (x13 : Value), wpAnyH Tryz.prog .any R7o Q (fun _ => True) 9 #[true, true, false, false, false, false, false, false, false, false, false] { tmps := #[t0, t1, t2, t3, t4, t5, t6, t7, t8, t9, t10, t11, t12, x13, t14, t15, t16, t17, t18, t19, t20, t21, t22, t23, t24, t25, t26, t27, t28, t29, t30, t31, t32, t33, t34, t35, t36, t37, t38, t39, t40, t41, t42, t43, t44, t45, t46, t47, t48, t49, t50, t51, t52, t53, x54, .slice (some ⟨dp, op, none⟩) 1 cp, x56, x57, x58, x59, x60, x61, x62, t63, t64, t65, t66, t67, t68, t69, t70, t71, t72, t73, t74, t75, t76, t77, t78, t79, t80, t81, t82, t83, t84, t85, t86, t87, t88, t89, t90, t91, t92, t93, t94, t95, t96, t97, t98, t99, t100, t101, t102, t103, t104, t105, t106, t107, t108, t109, t110, t111, t112, t113, t114, t115, t116, t117, t118, t119, t120, t121], defers := [] } w := by
    intro w hv x54 dp op kp Bp cp x56 x57 yp p lp x58 x59 x60 x61 x62 x13
    refine wpAnyH_ready (rs := [2, 4, 9]) (by kernel_rfl) (by simp) ?_
    refine (AllReadyH.cons (o := ({ dst := some 56, op := Op.indexAddr 35 (Operand.tmp 55) (Operand.const (Value.int IntKind.i64 0)), type := 0, pos := "law.go:36", after := #[{ on := 1, ground := Ground.data }], guard := none } : Oper)) rfl (fun K hK => ?_) (AllReadyH.cons (o := ({ dst := some 58, op := Op.buildSlice 95 3 #[(0, Operand.const (Value.int IntKind.i64 3)), (1, Operand.const (Value.int IntKind.i64 0)), (2, Operand.const (Value.int IntKind.i64 1))], type := 95, pos := "law.go:36", after := #[], guard := none } : Oper)) rfl (fun K hK => ?_) (AllReadyH.cons (o := ({ dst := some 13, op := Op.alloc 30, type := 0, pos := "law.go:36", after := #[], guard := none } : Oper)) rfl (fun K hK => ?_) AllReadyH.nil)))
    · skip
      go_simp
      refine hK.out _ _ trivial (fun _ => ?_)
      clear hK K
      (try simp only [List.setIfInBounds_toArray, List.set_cons_zero, List.set_cons_succ])
      exact K3000 _ hv _ _ _ _ _ _ _ yp p lp _ _ _ _ _ _
    · skip
      go_simp
      refine hK.out _ _ trivial (fun _ => ?_)
      clear hK K
      (try simp only [List.setIfInBounds_toArray, List.set_cons_zero, List.set_cons_succ])
      exact K2100 _ (bA hv) _ _ _ _ _ _ _ _ (((below_alloc _ _).cell (p := ⟨dp, op, none⟩) lp).trans yp) (p.keep (below_alloc _ _)) (Nat.lt_of_lt_of_le lp (below_alloc _ _).size) _ _ _ _ (heap_alloc_new _ _) _ _
    · skip
      go_simp
      refine hK.out _ _ trivial (fun _ => ?_)
      clear hK K
      (try simp only [List.setIfInBounds_toArray, List.set_cons_zero, List.set_cons_succ])
      exact K2001 _ (bA hv) _ _ _ _ _ _ _ _ (((below_alloc _ _).cell (p := ⟨dp, op, none⟩) lp).trans yp) (p.keep (below_alloc _ _)) (Nat.lt_of_lt_of_le lp (below_alloc _ _).size) _ _ _ _ _ _ (heap_alloc_new _ _) hv.size
  have K1100 : ∀ (w : World) (hv : Below w0.heap.size w0 w) (gp : Nat) (x55 : Value) (x56 : Value) (x57 : Value) (hp : w.heap[gp]? = some (.cells #[.int .i64 1, .int .i64 2] 2)) (gq : Nat) (x59 : Value) (x60 : Value) (x61 : Value) (hq : w.heap[gq]? = some (.cells #[.int .i64 3, .int .i64 0, .int .i64 1] 2)) (x62 : Value) (x13 : Value), wpAnyH Tryz.prog .any R7o Q (fun _ => True) 9 #[true, false, false, false, true, false, false, false, false, false, false] { tmps := #[t0, t1, t2, t3, t4, t5, t6, t7, t8, t9, t10, t11, t12, x13, t14, t15, t16, t17, t18, t19, t20, t21, t22, t23, t24, t25, t26, t27, t28, t29, t30, t31, t32, t33, t34, t35, t36, t37, t38, t39, t40, t41, t42, t43, t44, t45, t46, t47, t48, t49, t50, t51, t52, t53, .slice (some ⟨gp, 0, none⟩) 2 2, x55, x56, x57, .slice (some ⟨gq, 0, none⟩) 3 3, x59, x60, x61, x62, t63, t64, t65, t66, t67, t68, t69, t70, t71, t72, t73, t74, t75, t76, t77, t78, t79, t80, t81, t82, t83, t84, t85, t86, t87, t88, t89, t90, t91, t92, t93, t94, t95, t96, t97, t98, t99, t100, t101, t102, t103, t104, t105, t106, t107, t108, t109, t110, t111, t112, t113, t114, t115, t116, t117, t118, t119, t120, t121], defers := [] } w := by
    intro w hv gp x55 x56 x57 hp gq x59 x60 x61 hq x62 x13
    refine wpAnyH_ready (rs := [1, 9]) (by kernel_rfl) (by simp) ?_
    refine (AllReadyH.cons (o := ({ dst := some 55, op := Op.call { callee := Callee.value (Operand.func 80), args := #[Operand.const (Value.int IntKind.i64 2), Operand.tmp 54], argTypes := #[3, 95] }, type := 35, pos := "law.go:36", after := #[{ on := 0, ground := Ground.data }], guard := none } : Oper)) rfl (fun K hK => ?_) (AllReadyH.cons (o := ({ dst := some 13, op := Op.alloc 30, type := 0, pos := "law.go:36", after := #[], guard := none } : Oper)) rfl (fun K hK => ?_) AllReadyH.nil))
    · skip
      go_simp
      with_reducible refine (Hp.out _ _ hp).mono ?_
      rintro e v ⟨Ap, cp, rfl, p0, hb2⟩
      obtain ⟨dp, op, Bp, mp, kp, ep, x_p, p⟩ := p0.row (k := 0) (by omega)
      subst ep
      obtain rfl : mp = 2 := p.len.symm
      replace p : Pn v Bp 2 kp [1, 2] 1 := p
      have yp : v.cell? ⟨dp, op, none⟩ = some (.slice Bp 2 kp) := x_p.al
      (try go_wp2_with fail)
      refine hK.out _ _ trivial (fun _ => ?_)
      clear hK K
      (try simp only [List.setIfInBounds_toArray, List.set_cons_zero, List.set_cons_succ])
      exact K2100 _ (bthen hv hb2) _ _ _ _ _ _ _ _ yp p x_p.lt _ _ _ _ (keepB hb2 hq) _ _
    · skip
      go_simp
      refine hK.out _ _ trivial (fun _ => ?_)
      clear hK K
      (try simp only [List.setIfInBounds_toArray, List.set_cons_zero, List.set_cons_succ])
      exact K1101 _ (bA hv) _ _ _ _ (up_al hp) _ _ _ _ (up_al hq) _ _ (heap_alloc_new _ _) hv.size
  have K0001 : ∀ (w : World) (hv : Below w0.heap.size w0 w) (x54 : Value) (x55 : Value) (x56 : Value) (x57 : Value) (x58 : Value) (x59 : Value) (x60 : Value) (x61 : Value) (x62 : Value) (gr : Nat) (xr : w.heap[gr]? = some (.cells #[.bool false, .slice none 0 0] 30)) (hg : w0.heap.size ≤ gr), wpAnyH Tryz.prog .any R7o Q (fun _ => True) 10 #[false, false, false, false, false, false, false, false, false, true, false] { tmps := #[t0, t1, t2, t3, t4, t5, t6, t7, t8, t9, t10, t11, t12, .pointer (some ⟨gr, 0, none⟩), t14, t15, t16, t17, t18, t19, t20, t21, t22, t23, t24, t25, t26, t27, t28, t29, t30, t31, t32, t33, t34, t35, t36, t37, t38, t39, t40, t41, t42, t43, t44, t45, t46, t47, t48, t49, t50, t51, t52, t53, x54, x55, x56, x57, x58, x59, x60, x61, x62, t63, t64, t65, t66, t67, t68, t69, t70, t71, t72, t73, t74, t75, t76, t77, t78, t79, t80, t81, t82, t83, t84, t85, t86, t87, t88, t89, t90, t91, t92, t93, t94, t95, t96, t97, t98, t99, t100, t101, t102, t103, t104, t105, t106, t107, t108, t109, t110, t111, t112, t113, t114, t115, t116, t117, t118, t119, t120, t121], defers := [] } w := by
    intro w hv x54 x55 x56 x57 x58 x59 x60 x61 x62 gr xr hg
    refine wpAnyH_ready (rs := [0, 4]) (by kernel_rfl) (by simp) ?_
    refine (AllReadyH.cons (o := ({ dst := some 54, op := Op.buildSlice 95 2 #[(0, Operand.const (Value.int IntKind.i64 1)), (1, Operand.const (Value.int IntKind.i64 2))], type := 95, pos := "law.go:36", after := #[], guard := none } : Oper)) rfl (fun K hK => ?_) (AllReadyH.cons (o := ({ dst := some 58, op := Op.buildSlice 95 3 #[(0, Operand.const (Value.int IntKind.i64 3)), (1, Operand.const (Value.int IntKind.i64 0)), (2, Operand.const (Value.int IntKind.i64 1))], type := 95, pos := "law.go:36", after := #[], guard := none } : Oper)) rfl (fun K hK => ?_) AllReadyH.nil))
    · skip
      go_simp
      refine hK.out _ _ trivial (fun _ => ?_)
      clear hK K
      (try simp only [List.setIfInBounds_toArray, List.set_cons_zero])
      exact K1001 _ (bA hv) _ _ _ _ (heap_alloc_new _ _) _ _ _ _ _ _ (up_al xr) hg
    · skip
      go_simp
      refine hK.out _ _ trivial (fun _ => ?_)
      clear hK K
      (try simp only [List.setIfInBounds_toArray, List.set_cons_zero, List.set_cons_succ])
      exact K0101 _ (bA hv) _ _ _ _ _ _ _ _ (heap_alloc_new _ _) _ _ (up_al xr) hg
  have K1000 : ∀ (w : World) (hv : Below w0.heap.size w0 w) (gp : Nat) (x55 : Value) (x56 : Value) (x57 : Value) (hp : w.heap[gp]? = some (.cells #[.int .i64 1, .int .i64 2] 2)) (x58 : Value) (x59 : Value) (x60 : Value) (x61 : Value) (x62 : Value) (x13 : Value), wpAnyH Tryz.prog .any R7o Q (fun _ => True) 10 #[true, false, false, false, false, false, false, false, false, false, false] { tmps := #[t0, t1, t2, t3, t4, t5, t6, t7, t8, t9, t10, t11, t12, x13, t14, t15, t16, t17, t18, t19, t20, t21, t22, t23, t24, t25, t26, t27, t28, t29, t30, t31, t32, t33, t34, t35, t36, t37, t38, t39, t40, t41, t42, t43, t44, t45, t46, t47, t48, t49, t50, t51, t52, t53, .slice (some ⟨gp, 0, none⟩) 2 2, x55, x56, x57, x58, x59, x60, x61, x62, t63, t64, t65, t66, t67, t68, t69, t70, t71, t72, t73, t74, t75, t76, t77, t78, t79, t80, t81, t82, t83, t84, t85, t86, t87, t88, t89, t90, t91, t92, t93, t94, t95, t96, t97, t98, t99, t100, t101, t102, t103, t104, t105, t106, t107, t108, t109, t110, t111, t112, t113, t114, t115, t116, t117, t118, t119, t120, t121], defers := [] } w := by
    intro w hv gp x55 x56 x57 hp x58 x59 x60 x61 x62 x13
    refine wpAnyH_ready (rs := [1, 4, 9]) (by kernel_rfl) (by simp) ?_
    refine (AllReadyH.cons (o := ({ dst := some 55, op := Op.call { callee := Callee.value (Operand.func 80), args := #[Operand.const (Value.int IntKind.i64 2), Operand.tmp 54], argTypes := #[3, 95] }, type := 35, pos := "law.go:36", after := #[{ on := 0, ground := Ground.data }], guard := none } : Oper)) rfl (fun K hK => ?_) (AllReadyH.cons (o := ({ dst := some 58, op := Op.buildSlice 95 3 #[(0, Operand.const (Value.int IntKind.i64 3)), (1, Operand.const (Value.int IntKind.i64 0)), (2, Operand.const (Value.int IntKind.i64 1))], type := 95, pos := "law.go:36", after := #[], guard := none } : Oper)) rfl (fun K hK => ?_) (AllReadyH.cons (o := ({ dst := some 13, op := Op.alloc 30, type := 0, pos := "law.go:36", after := #[], guard := none } : Oper)) rfl (fun K hK => ?_) AllReadyH.nil)))
    · skip
      go_simp
      with_reducible refine (Hp.out _ _ hp).mono ?_
      rintro e v ⟨Ap, cp, rfl, p0, hb2⟩
      obtain ⟨dp, op, Bp, mp, kp, ep, x_p, p⟩ := p0.row (k := 0) (by omega)
      subst ep
      obtain rfl : mp = 2 := p.len.symm
      replace p : Pn v Bp 2 kp [1, 2] 1 := p
      have yp : v.cell? ⟨dp, op, none⟩ = some (.slice Bp 2 kp) := x_p.al
      (try go_wp2_with fail)
      refine hK.out _ _ trivial (fun _ => ?_)
      clear hK K
      (try simp only [List.setIfInBounds_toArray, List.set_cons_zero, List.set_cons_succ])
      exact K2000 _ (bthen hv hb2) _ _ _ _ _ _ _ _ yp p x_p.lt _ _ _ _ _ _
    · skip
      go_simp
      refine hK.out _ _ trivial (fun _ => ?_)
      clear hK K
      (try simp only [List.setIfInBounds_toArray, List.set_cons_zero, List.set_cons_succ])
      exact K1100 _ (bA hv) _ _ _ _ (up_al hp) _ _ _ _ (heap_alloc_new _ _) _ _
    · skip
      go_simp
      refine hK.out _ _ trivial (fun _ => ?_)
      clear hK K
      (try simp only [List.setIfInBounds_toArray, List.set_cons_zero, List.set_cons_succ])
      exact K1001 _ (bA hv) _ _ _ _ (up_al hp) _ _ _ _ _ _ (heap_alloc_new _ _) hv.size
  have K0100 : ∀ (w : World) (hv : Below w0.heap.size w0 w) (x54 : Value) (x55 : Value) (x56 : Value) (x57 : Value) (gq : Nat) (x59 : Value) (x60 : Value) (x61 : Value) (hq : w.heap[gq]? = some (.cells #[.int .i64 3, .int .i64 0, .int .i64 1] 2)) (x62 : Value) (x13 : Value), wpAnyH Tryz.prog .any R7o Q (fun _ => True) 10 #[false, false, false, false, true, false, false, false, false, false, false] { tmps := #[t0, t1, t2, t3, t4, t5, t6, t7, t8, t9, t10, t11, t12, x13, t14, t15, t16, t17, t18, t19, t20, t21, t22, t23, t24, t25, t26, t27, t28, t29, t30, t31, t32, t33, t34, t35, t36, t37, t38, t39, t40, t41, t42, t43, t44, t45, t46, t47, t48, t49, t50, t51, t52, t53, x54, x55, x56, x57, .slice (some ⟨gq, 0, none⟩) 3 3, x59, x60, x61, x62, t63, t64, t65, t66, t67, t68, t69, t70, t71, t72, t73, t74, t75, t76, t77, t78, t79, t80, t81, t82, t83, t84, t85, t86, t87, t88, t89, t90, t91, t92, t93, t94, t95, t96, t97, t98, t99, t100, t101, t102, t103, t104, t105, t106, t107, t108, t109, t110, t111, t112, t113, t114, t115, t116, t117, t118, t119, t120, t121], defers := [] } w := by
    intro w hv x54 x55 x56 x57 gq x59 x60 x61 hq x62 x13
    refine wpAnyH_ready (rs := [0, 9]) (by kernel_rfl) (by simp) ?_
    refine (AllReadyH.cons (o := ({ dst := some 54, op := Op.buildSlice 95 2 #[(0, Operand.const (Value.int IntKind.i64 1)), (1, Operand.const (Value.int IntKind.i64 2))], type := 95, pos := "law.go:36", after := #[], guard := none } : Oper)) rfl (fun K hK => ?_) (AllReadyH.cons (o := ({ dst := some 13, op := Op.alloc 30, type := 0, pos := "law.go:36", after := #[], guard := none } : Oper)) rfl (fun K hK => ?_) AllReadyH.nil))
    · skip
      go_simp
      refine hK.out _ _ trivial (fun _ => ?_)
      clear hK K
      (try simp only [List.setIfInBounds_toArray, List.set_cons_zero])
      exact K1100 _ (bA hv) _ _ _ _ (heap_alloc_new _ _) _ _ _ _ (up_al hq) _ _
    · skip
      go_simp
      refine hK.out _ _ trivial (fun _ => ?_)
      clear hK K
      (try simp only [List.setIfInBounds_toArray, List.set_cons_zero, List.set_cons_succ])
      exact K0101 _ (bA hv) _ _ _ _ _ _ _ _ (up_al hq) _ _ (heap_alloc_new _ _) hv.size
  have K0000 : ∀ (w : World) (hv : Below w0.heap.size w0 w) (x54 : Value) (x55 : Value) (x56 : Value) (x57 : Value) (x58 : Value) (x59 : Value) (x60 : Value) (x61 : Value) (x62 : Value) (x13 : Value), wpAnyH Tryz.prog .any R7o Q (fun _ => True) 11 #[false, false, false, false, false, false, false, false, false, false, false] { tmps := #[t0, t1, t2, t3, t4, t5, t6, t7, t8, t9, t10, t11, t12, x13, t14, t15, t16, t17, t18, t19, t20, t21, t22, t23, t24, t25, t26, t27, t28, t29, t30, t31, t32, t33, t34, t35, t36, t37, t38, t39, t40, t41, t42, t43, t44, t45, t46, t47, t48, t49, t50, t51, t52, t53, x54, x55, x56, x57, x58, x59, x60, x61, x62, t63, t64, t65, t66, t67, t68, t69, t70, t71, t72, t73, t74, t75, t76, t77, t78, t79, t80, t81, t82, t83, t84, t85, t86, t87, t88, t89, t90, t91, t92, t93, t94, t95, t96, t97, t98, t99, t100, t101, t102, t103, t104, t105, t106, t107, t108, t109, t110, t111, t112, t113, t114, t115, t116, t117, t118, t119, t120, t121], defers := [] } w := by
    intro w hv x54 x55 x56 x57 x58 x59 x60 x61 x62 x13
    refine wpAnyH_ready (rs := [0, 4, 9]) (by kernel_rfl) (by simp) ?_
    refine (AllReadyH.cons (o := ({ dst := some 54, op := Op.buildSlice 95 2 #[(0, Operand.const (Value.int IntKind.i64 1)), (1, Operand.const (Value.int IntKind.i64 2))], type := 95, pos := "law.go:36", after := #[], guard := none } : Oper)) rfl (fun K hK => ?_) (AllReadyH.cons (o := ({ dst := some 58, op := Op.buildSlice 95 3 #[(0, Operand.const (Value.int IntKind.i64 3)), (1, Operand.const (Value.int IntKind.i64 0)), (2, Operand.const (Value.int IntKind.i64 1))], type := 95, pos := "law.go:36", after := #[], guard := none } : Oper)) rfl (fun K hK => ?_) (AllReadyH.cons (o := ({ dst := some 13, op := Op.alloc 30, type := 0, pos := "law.go:36", after := #[], guard := none } : Oper)) rfl (fun K hK => ?_) AllReadyH.nil)))
    · skip
      go_simp
      refine hK.out _ _ trivial (fun _ => ?_)
      clear hK K
      (try simp only [List.setIfInBounds_toArray, List.set_cons_zero])
      exact K1000 _ (bA hv) _ _ _ _ (heap_alloc_new _ _) _ _ _ _ _ _
    · skip
      go_simp
      refine hK.out _ _ trivial (fun _ => ?_)
      clear hK K
      (try simp only [List.setIfInBounds_toArray, List.set_cons_zero, List.set_cons_succ])
      exact K0100 _ (bA hv) _ _ _ _ _ _ _ _ (heap_alloc_new _ _) _ _
    · skip
      go_simp
      refine hK.out _ _ trivial (fun _ => ?_)
      clear hK K
      (try simp only [List.setIfInBounds_toArray, List.set_cons_zero, List.set_cons_succ])
      exact K0001 _ (bA hv) _ _ _ _ _ _ _ _ _ _ (heap_alloc_new _ _) hv.size
  exact K0000 w0.drew (below_drew (Below.refl _ _)) _ _ _ _ _ _ _ _ _ _
end Go.Proofs.YtbpamkpclofnbaaGreat
