/-
  zed: tenPowers.
-/
import Derived.Test.YtcoidcbbdibnaaaDoorZchunk
import Derived.Test.YtcoidcbbdibnaaaDoorMulF
import Derived.Maps.AppendAt
namespace Go.Proofs.YtcoidcbbdibnaaaDoor
open Go.RowKit
set_option linter.unusedVariables false

/-- The powers of ten by which digits are halved. -/
def tp (i : Nat) : Nat := 10 ^ (19 * 2 ^ i)
theorem tp_zero : tp 0 = 10000000000000000000 := rfl
theorem tp_succ (i : Nat) : tp (i + 1) = tp i * tp i := by
  unfold tp; rw [← Nat.pow_add]; congr 1; rw [Nat.pow_succ]; omega
theorem tp_sm (i : Nat) : Sm (tp i) (2 ^ i) := by
  induction i with
  | zero => unfold Sm; rw [tp_zero]; decide
  | succ i ih => rw [tp_succ, Nat.pow_succ, Nat.mul_two]; exact ih.mul ih
theorem tp_pos (i : Nat) : 0 < tp i := Nat.pow_pos (by omega)

/-- A slice of slices that reads as the powers. -/
def Pw (w : World) (A : Option Addr) (n c : Nat) : Prop :=
  n ≤ c ∧ (0 < n → ∃ b off, A = some ⟨b, off, none⟩ ∧ b < w.heap.size ∧ ∀ k, k < n → ∃ A' n' c', w.cell? ⟨b, off + k, none⟩ = some (.slice A' n' c') ∧ Rd w w.heap.size A' n' c' (dg Wd (tp k)))
theorem Pw.keep {w w' : World} {A : Option Addr} {n c : Nat} (h : Pw w A n c) (hb : Below w.heap.size w w') : Pw w' A n c :=
  ⟨h.1, fun hn => by
    obtain ⟨b, off, e, hlt, hc⟩ := h.2 hn
    refine ⟨b, off, e, Nat.lt_of_lt_of_le hlt hb.size, fun k hk => ?_⟩
    obtain ⟨A', n', c', h1, h2⟩ := hc k hk
    exact ⟨A', n', c', (hb.cell hlt).trans h1, h2.go hb⟩⟩
theorem Pw.take {w : World} {A : Option Addr} {n c m : Nat} (h : Pw w A n c) (hm : m ≤ n) : Pw w A m c :=
  ⟨Nat.le_trans hm h.1, fun hn => by
    obtain ⟨b, off, e, hlt, hc⟩ := h.2 (by omega)
    exact ⟨b, off, e, hlt, fun k hk => hc k (by omega)⟩⟩

theorem Tryd.infoS : (Tryd.prog.info? 22).map (fun i => (i.zero, i.size, i.bytes)) = some (some (.slice none 0 0), 1, 24) := by kernel_rfl
/-- A slice of slices that the call itself has made. -/
def Os (w : World) (base : Nat) (v : Value) (l : List Value) : Prop := w.ownsRow base 22 1 v l.length l
theorem Os.one (w : World) (base : Nat) (u : Value) (hb : base ≤ w.heap.size) : Os (w.alloc (.cells #[u] 22)) base (.slice (some ⟨w.heap.size, 0, none⟩) 1 1) [u] :=
  ⟨by simp, .inr ⟨w.heap.size, 1, #[u], rfl, hb, heap_alloc_new w _, Nat.le_refl _, by unfold maxLen; omega, rfl, rfl⟩⟩
theorem Os.keep {w w' : World} {base : Nat} {v : Value} {l : List Value} (h : Os w base v l) (hb : Below w.heap.size w w') : Os w' base v l := by
  refine ⟨h.1, ?_⟩
  rcases h.2 with h1 | ⟨g, cap, cur, hv, hg, hh, rest⟩
  · exact .inl h1
  · exact .inr ⟨g, cap, cur, hv, hg, (hb.block g (Array.getElem?_eq_some_iff.1 hh).1).trans hh, rest⟩
theorem Os.at_ {w : World} {base : Nat} {v : Value} {l : List Value} (h : Os w base v l) (hl : 0 < l.length) : ∃ g cap, v = .slice (some ⟨g, 0, none⟩) l.length cap ∧ base ≤ g ∧ g < w.heap.size ∧ l.length ≤ cap ∧ ∀ k (hk : k < l.length), w.cell? ⟨g, k, none⟩ = some l[k] := by
  rcases h.2 with ⟨_, h2⟩ | ⟨g, cap, cur, hv, hg, hh, hnc, _, _, htk⟩
  · omega
  · refine ⟨g, cap, hv, hg, (Array.getElem?_eq_some_iff.1 hh).1, hnc, fun k hk => ?_⟩
    rw [cell_of_row w g k _ _ (0, 0) hh]
    rw [Nat.mul_one] at htk
    have : cur.toList[k]? = some l[k] := by
      rw [← List.getElem?_take_of_lt hk, htk, List.getElem?_eq_getElem hk]
    simpa using this

theorem wp_pushS {W : World} {ops : Array Oper} {rest : List Oper} {o : Oper} {a : Act} {Q : Exit → Act → World → Prop} (hg : o.guard = none) (s x : Operand)
    (hop : o.op = .call { callee := .builtin .append, args := #[s, x], argTypes := #[60, 60] }) (base : Nat) (v : Value) (l : List Value) (hs : a.eval s = v) (hown : Os W base v l)
    (g0 : Nat) (A : Option Addr) (n c : Nat) (hx : a.eval x = .slice (some ⟨g0, 0, none⟩) 1 1) (hc : W.cell? ⟨g0, 0, none⟩ = some (.slice A n c)) (hlen : l.length ≤ 1000000000) (hbase : base ≤ W.heap.size)
    (hK : ∀ v' w', Os w' base v' (l ++ [.slice A n c]) → W.grownBy w' v.ownBlock → (v'.ownBlock = v.ownBlock ∨ v'.ownBlock = some W.heap.size) → wpList Tryd.prog ops Q rest (a.put o.dst v') w') : wpList Tryd.prog ops Q (o :: rest) a W := by
  obtain ⟨i0, hi, hz0, hz1, hz2⟩ := info_parts Tryd.infoS
  refine wpList_append_own_at (w := W) hg s x 60 hop base 22 i0 (.slice none 0 0) 1 24 Tryd.underlying60 hi hz0 hz1 hz2 rfl (by decide) v _ _ hs hown ⟨g0, 0, none⟩ 1 1 [.slice A n c] hx rfl ?_ ?_ (by unfold maxLen; omega) (by omega) hbase ?_
  · intro j u hj
    match j, hj with
    | 0, hj => simp at hj; subst hj; simpa [Addr.add] using hc
  · intro u hu; simp at hu; subst hu; rfl
  · intro v' w' h1 h2 _ h4
    refine hK v' w' ?_ h2 h4
    unfold Os
    simpa using h1
end Go.Proofs.YtcoidcbbdibnaaaDoor
