/-
  append(own, a...) of limbs.
-/
import Derived.Test.YtcoidcbbdibnaaaDoorRlen
namespace Go.Proofs.YtcoidcbbdibnaaaDoor
open Go.RowKit
set_option linter.unusedVariables false

theorem run_append_zero {w : World} {base : Nat} {v : Value} {l : List Int} (h : Ow w base v l) (ty : TypeId) (c : Nat) :
    (Builtin.append_ #[22, 22] ty #[v, .slice none 0 c]).run Tryd.prog w = .ok v w := by
  obtain ⟨i0, hi, hz0, hz1, hz2⟩ := info_parts Tryd.info64
  rcases h.2 with ⟨h1, h2⟩ | ⟨g, cap, cur, hv, _, _, hnc, _⟩
  · rw [h1]
    simp [Builtin.append_, run_underlying Tryd.underlying22, sizeOf, typeInfo, hi, Builtin.lenOf, Builtin.firstCells]
  · rw [hv]
    simp [Builtin.append_, run_underlying Tryd.underlying22, sizeOf, typeInfo, hi, Builtin.lenOf, Builtin.firstCells, hnc, storeCells]

theorem wp_all64 {W : World} {ops : Array Oper} {rest : List Oper} {o : Oper} {a : Act} {Q : Exit → Act → World → Prop} (hg : o.guard = none) (s x : Operand)
    (hop : o.op = .call { callee := .builtin .append, args := #[s, x], argTypes := #[22, 22] }) (base : Nat) (v : Value) (l : List Int) (hs : a.eval s = v) (hown : Ow W base v l)
    (A : Option Addr) (n c B : Nat) (m : List Int) (hx : a.eval x = .slice A n c) (hrd : Rd W B A n c m) (hlen : l.length ≤ 1099511627776) (hn : n ≤ 1099511627776) (hbase : base ≤ W.heap.size)
    (hK : ∀ v' w', Ow w' base v' (l ++ m) → Below base W w' → wpList Tryd.prog ops Q rest (a.put o.dst v') w') : wpList Tryd.prog ops Q (o :: rest) a W := by
  have hml := hrd.len
  rcases A with _ | ad
  · have h0 : n = 0 := by
      rcases Nat.eq_zero_or_pos n with h0 | h0
      · exact h0
      · obtain ⟨_, _, h, _⟩ := hrd.at_ h0; cases h
    subst h0
    have : m = [] := List.eq_nil_of_length_eq_zero hml
    subst this
    refine wpList_plain hg fun K hK' => ?_
    have hrun := run_append_zero hown o.type c
    unfold Oper.wp
    simp [execOp, hop, resolve, invoke, builtin, hs, hx, hrun, Result.andThen]
    exact hK' _ _ (hK v W (by simpa using hown) (Below.refl _ _))
  · obtain ⟨i0, hi, hz0, hz1, hz2⟩ := info_parts Tryd.info64
    refine wpList_append_own W hg s x 22 hop base 31 i0 (.int .u64 0) 1 8 Tryd.underlying22 hi hz0 hz1 hz2 rfl (by decide) v _ _ hs hown ad n c (m.map (Value.int .u64)) hx (by simp [hml]) ?_ (ints_oneCell _ _) (by unfold maxLen; omega) (by omega) hbase ?_
    · intro j u hj
      rw [List.getElem?_map] at hj
      by_cases hjl : j < m.length
      · obtain ⟨b, of, e, hb, hc⟩ := hrd.at_ (by omega)
        injection e with e
        subst e
        rw [List.getElem?_eq_getElem hjl] at hj
        simp at hj
        subst hj
        rw [← hc j hjl]
        unfold Addr.add
        by_cases hj0 : j = 0
        · subst hj0; simp
        · rw [if_neg hj0]
      · rw [List.getElem?_eq_none (by omega)] at hj
        simp at hj
    · intro v' w' h1 h2 _
      refine hK v' w' ?_ ⟨h2.os, h2.tape, h2.output, h2.size, fun k hk => h2.block k (by omega) (fun e => by have := (World.ownsRow.lt hown k e.symm).1; omega)⟩
      unfold Ow
      rw [List.length_append, hml, List.map_append]
      exact h1
theorem Ow.empty (w : World) (base : Nat) (hb : base ≤ w.heap.size) : Ow (w.alloc (.cells #[] 31)) base (.slice (some ⟨w.heap.size, 0, none⟩) 0 0) [] :=
  ⟨by simp, .inr ⟨w.heap.size, 0, #[], rfl, hb, heap_alloc_new w _, Nat.le_refl _, by unfold maxLen; omega, rfl, rfl⟩⟩
end Go.Proofs.YtcoidcbbdibnaaaDoor
