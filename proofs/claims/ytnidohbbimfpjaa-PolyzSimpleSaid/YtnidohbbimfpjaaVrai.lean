/-
  polyz: raise.
-/
import Derived.Test.YtnidohbbimfpjaaVadd
namespace Go.Proofs.Ytnidohbbimfpjaa
open Go.RowKit
open MP.Se (nf co)
set_option linter.unusedVariables false
set_option maxRecDepth 100000

theorem add_off (d o j : Nat) : (⟨d, o, none⟩ : Addr).add j = ⟨d, o + j, none⟩ := by unfold Addr.add; split <;> simp_all
/-- m cells from a on. -/
def cellL (w : World) (a : Addr) (m : Nat) : List Value := (List.range m).map fun j => (w.cell? (a.add j)).getD (.bool false)
theorem cellL_at (w : World) (a : Addr) (m j : Nat) (hj : j < m) : (cellL w a m)[j]? = some ((w.cell? (a.add j)).getD (.bool false)) := by
  simp [cellL, hj]
/-- A new slice: one zero, and behind it the integers of another one. -/
theorem run_raise (w : World) (ty : TypeId) {B g n c J : Nat} {a : Addr} {l : List Int} (hx : w.heap[g]? = some (.cells #[.bool false, .slice none 0 0] 32 (0, 0))) (h : Pd w B (some a) n c l J) (hn1 : n + 1 ≤ 100000) :
    ∃ g' c' w', (Builtin.append_ #[40, 40] ty #[.slice (some ⟨g, 0, none⟩) 1 1, .slice (some a) n c]).run Try.prog w = .ok (.slice (some ⟨g', 0, none⟩) (1 + n) c') w' ∧ Pd w' w'.heap.size (some ⟨g', 0, none⟩) (1 + n) c' (0 :: l) J ∧ Fz (fun b => b = g) w w' := by
  obtain ⟨i0, hi, hz0, hz1, hz2⟩ := info_parts Try.infoI
  have hl := h.len
  have hbig := h.big
  have hel : ∀ k (hk : k < n), ∃ b A m c, w.cell? (a.add (k * 2)) = some (.bool b) ∧ w.cell? (a.add (k * 2 + 1)) = some (.slice A m c) ∧ Zr w b A m c (l[k]'(by omega)) J := fun k hk => by
    obtain ⟨d', o', e, _, hc⟩ := h.at_ (by omega)
    injection e with e; subst e
    rw [add_off, add_off, ← Nat.add_assoc]
    exact hc k (by omega)
  have hcell : ∀ j, j < n * 2 → ∃ u, w.cell? (a.add j) = some u ∧ u.oneCell' = true := fun j hj => by
    obtain ⟨b, A, m, c, h1, h2, _⟩ := hel (j / 2) (by omega)
    rcases (show j = j / 2 * 2 ∨ j = j / 2 * 2 + 1 by omega) with e | e
    · exact ⟨.bool b, by rw [e]; exact h1, rfl⟩
    · exact ⟨.slice A m c, by rw [e]; exact h2, rfl⟩
  have hN : (cellL w a (n * 2)).length = n * 2 := by simp [cellL]
  have hnews : ∀ j u, (cellL w a (n * 2))[j]? = some u → w.cell? (a.add j) = some u ∧ u.oneCell' = true := fun j u hj => by
    have hlt : j < n * 2 := by
      have := (List.getElem?_eq_some_iff.1 hj).1
      rwa [hN] at this
    rw [cellL_at _ _ _ _ hlt] at hj
    obtain ⟨u', hu, h1⟩ := hcell j hlt
    rw [hu] at hj
    injection hj with hj
    rw [hu]
    exact ⟨congrArg some hj, by rw [← hj]; exact h1⟩
  have hown : w.ownsRow 0 32 2 (.slice (some ⟨g, 0, none⟩) 1 1) 1 [.bool false, .slice none 0 0] := ⟨rfl, .inr ⟨g, 1, _, rfl, Nat.zero_le _, hx, Nat.le_refl _, by unfold maxLen; omega, rfl, rfl⟩⟩
  obtain ⟨v', w', hr, ho, hg, _⟩ := run_append_own (P := Try.prog) w 0 40 ty 32 i0 _ 2 32 Try.underlying40 hi hz0 hz1 hz2 rfl (by omega) _ 1 _ hown a n c (cellL w a (n * 2)) hN (fun j u hj => (hnews j u hj).1)
    (fun u hu => by obtain ⟨j, hj, e⟩ := List.getElem_of_mem hu; exact (hnews j u (by rw [List.getElem?_eq_getElem hj, e])).2) (by unfold maxLen; omega) (by omega) (Nat.zero_le _)
  have hf : Fz (fun b => b = g) w w' := ⟨hg.os, hg.tape, hg.output, hg.size, fun k hk hp => hg.block k hk (fun e => hp (by simpa [Value.ownBlock] using e)), fun A m c l r => by
    refine ⟨r.1, r.2.1, r.2.2.1, r.2.2.2.1, fun hm => ?_⟩
    obtain ⟨b, off, e, hb, hc⟩ := r.at_ hm
    have hne : b ≠ g := fun e2 => by
      subst e2
      have h0 := hc 0 (by have := r.len; omega)
      rw [cell_of_row w b _ _ _ (0, 0) hx] at h0
      rcases off with _ | _ | off <;> simp at h0
    refine ⟨b, off, e, Nat.lt_of_lt_of_le hb hg.size, fun k hk => ?_⟩
    rw [← hc k hk]
    exact World.cell?_of_block (hg.block b hb (fun e => hne (by simpa [Value.ownBlock] using e)))⟩
  rcases ho.2 with ⟨_, h0⟩ | ⟨g', cap, cur, rfl, _, hgg, hle, hm, hcs, hxs⟩
  · omega
  refine ⟨g', cap, w', hr, ⟨by simp; omega, hle, by omega, fun _ => ⟨g', 0, rfl, (Array.getElem?_eq_some_iff.1 hgg).1, fun k hk => ?_⟩⟩, hf⟩
  have hrow : ∀ i, i < (1 + n) * 2 → w'.cell? ⟨g', i, none⟩ = ([.bool false, .slice none 0 0] ++ cellL w a (n * 2))[i]? := fun i hi => by
    rw [cell_of_row w' g' i cur _ (0, 0) hgg, ← hxs, List.getElem?_take, if_pos hi]; simp
  have hk2 : k < n + 1 := by simpa [hl] using hk
  rw [Nat.zero_add]
  rcases k with _ | k
  · exact ⟨false, none, 0, 0, by rw [hrow _ (by omega)]; rfl, by rw [hrow _ (by omega)]; rfl, (Zn.zero _ _).zr⟩
  · obtain ⟨b, A, m, c, h1, h2, z⟩ := hel k (by omega)
    refine ⟨b, A, m, c, ?_, ?_, by rw [List.getElem_cons_succ]; exact z.via hf⟩
    · rw [hrow _ (by omega), show (k + 1) * 2 = k * 2 + 1 + 1 by omega]
      show (cellL w a (n * 2))[k * 2]? = _
      rw [cellL_at _ _ _ _ (by omega), h1]; rfl
    · rw [hrow _ (by omega), show (k + 1) * 2 + 1 = k * 2 + 1 + 1 + 1 by omega]
      show (cellL w a (n * 2))[k * 2 + 1]? = _
      rw [cellL_at _ _ _ _ (by omega), h2]; rfl
theorem wp_raise {w : World} {ops : Array Oper} {rest : List Oper} {o : Oper} {a : Act} {Q : Exit → Act → World → Prop} (hgd : o.guard = none) (s x : Operand)
    (hop : o.op = .call { callee := .builtin .append, args := #[s, x], argTypes := #[40, 40] }) {B g n c J : Nat} {ad : Addr} {l : List Int} (hx : w.heap[g]? = some (.cells #[.bool false, .slice none 0 0] 32 (0, 0))) (h : Pd w B (some ad) n c l J) (hn1 : n + 1 ≤ 100000)
    (hs : a.eval s = .slice (some ⟨g, 0, none⟩) 1 1) (hv : a.eval x = .slice (some ad) n c)
    (hK : ∀ g' c' w', Pd w' w'.heap.size (some ⟨g', 0, none⟩) (1 + n) c' (0 :: l) J → Fz (fun b => b = g) w w' → wpList Try.prog ops Q rest (a.put o.dst (.slice (some ⟨g', 0, none⟩) (1 + n) c')) w') : wpList Try.prog ops Q (o :: rest) a w :=
  wpList_plain hgd fun K hK2 => by
    obtain ⟨g', c', w', hr, h1, h2⟩ := run_raise w o.type hx h hn1
    unfold Oper.wp execOp
    simp only [hop, resolve, invoke, builtin, Sem.run_bind, Sem.run_pure, Result.andThen_ok, List.map_toArray, List.map_cons, List.map_nil, hs, hv, hr]
    exact hK2 _ _ (hK g' c' w' h1 h2)
theorem PRaise_any {A : Option Addr} {n c J : Nat} {l : List Int} {w : World} (h : Pd w w.heap.size A n c l J) (hn1 : n + 1 ≤ 100000) :
    Calls Try.prog 91 #[.slice A n c] w fun e w' => ∃ A' c', e = .returned (.slice A' (n + 1) c') ∧ Pd w' w'.heap.size A' (n + 1) c' (0 :: l) J ∧ Below w.heap.size w w' := by
  have hl := h.len
  rcases A with _ | ad
  · obtain rfl : n = 0 := by
      rcases Nat.eq_zero_or_pos n with h0 | h0
      · exact h0
      · obtain ⟨_, _, e, _⟩ := h.at_ h0; cases e
    obtain rfl : l = [] := List.eq_nil_of_length_eq_zero hl
    go_enter Try.func91, Try.ntmps91
    go_wp2
    go_ret
    refine ⟨_, _, rfl, ?_, below_alloc _ _⟩
    have x := Bx.new w false none 0 0
    exact ⟨rfl, Nat.le_refl _, by omega, fun _ => ⟨_, 0, rfl, x.lt, fun k hk => by
      obtain rfl : k = 0 := by simpa using hk
      exact ⟨false, none, 0, 0, x.c0, x.c1, (Zn.zero _ _).zr⟩⟩⟩
  · have hc := h.cap
    have e1 : 1 + n = n + 1 := Nat.add_comm 1 n
    have E1 := Lib.hid e1
    replace h := h.pe
    go_enter Try.func91, Try.ntmps91
    clear e1
    go_wp2_with (at_builtin; refine al1 fun v1 hb x => ?_; replace h := h.keep hb; refine wp_raise rfl _ _ rfl x h.2 hn1 rfl rfl ?_; intro g' c' w2 hp hf)
    go_ret
    exact ⟨some ⟨g', 0, none⟩, c', by rw [← E1.out]; rfl, by rw [← E1.out]; exact hp, Fz.below (P := fun _ => False) ((Fz.of hb).more hf (fun b hb e => by omega)) (fun b hb h => h)⟩
end Go.Proofs.Ytnidohbbimfpjaa
