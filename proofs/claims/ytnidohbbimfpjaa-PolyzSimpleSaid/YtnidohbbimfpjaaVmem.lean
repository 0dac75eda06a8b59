/-
  slices of integers: read, and in blocks of one's own.
-/
import Derived.Test.YtnidohbbimfpjaaZsto
import Derived.Deep.DeepCutAuto
import Derived.Shelf.Abstract
namespace Go.Proofs.Ytnidohbbimfpjaa
open Go.RowKit
set_option linter.unusedVariables false
set_option maxRecDepth 100000

/-- At place o of block d lies the integer X. -/
def El (w : World) (d o : Nat) (X : Int) (J : Nat) : Prop := ∃ b A n c, w.cell? ⟨d, o, none⟩ = some (.bool b) ∧ w.cell? ⟨d, o + 1, none⟩ = some (.slice A n c) ∧ Zr w b A n c X J
/-- The slice '.slice A n c' of integers reads as l, and its cells lie below block B. -/
def Pd (w : World) (B : Nat) (A : Option Addr) (n c : Nat) (l : List Int) (J : Nat) : Prop :=
  l.length = n ∧ n ≤ c ∧ n ≤ 100000 ∧ (0 < n → ∃ d o, A = some ⟨d, o, none⟩ ∧ d < B ∧ ∀ k (hk : k < l.length), El w d (o + k * 2) l[k] J)
/-- No limb is among these cells. -/
def Kd (l : List Value) : Prop := ∀ u ∈ l, ∀ x, u ≠ .int .u64 x
/-- Block g holds just the integers l, each in normal form. -/
def Pw (w : World) (g : Nat) (l : List Int) (J : Nat) : Prop :=
  ∃ cur : Array Value, w.heap[g]? = some (.cells cur 32 (0, 0)) ∧ cur.size = l.length * 2 ∧ l.length ≤ 100000 ∧ Kd cur.toList ∧
    ∀ k (hk : k < l.length), ∃ A n c, cur[k * 2]? = some (.bool (ngB l[k])) ∧ cur[k * 2 + 1]? = some (.slice A n c) ∧ Zn w A n c l[k] J
/-- A slice in memory of one's own: nothing, or the first integers of a block from B on. -/
def Po (w : World) (B : Nat) (A : Option Addr) (n c : Nat) (l : List Int) (J : Nat) : Prop :=
  (A = none ∧ n = 0 ∧ c = 0 ∧ l = []) ∨ ∃ g L, A = some ⟨g, 0, none⟩ ∧ B ≤ g ∧ c = L.length ∧ n ≤ c ∧ Pw w g L J ∧ l = L.take n
/-- A slice of integers is handed back. -/
def OutP (w : World) (l : List Int) (J : Nat) (e : Ending) (w' : World) : Prop := ∃ A n c, e = .returned (.slice A n c) ∧ Po w' w.heap.size A n c l J ∧ Below w.heap.size w w'
section
variable {w w' v W : World} {B B' d o g n c J K : Nat} {A : Option Addr} {X : Int} {l L : List Int}
theorem Zr.kto {b : Bool} (h : Zr w b A n c X J) (hK : J ≤ K) : Zr w b A n c X K := by
  obtain ⟨l, h1, h2, h3⟩ := h
  exact ⟨l, h1, h2, Nat.le_trans h3 hK⟩
theorem Zn.kto (h : Zn w A n c X J) (hK : J ≤ K) : Zn w A n c X K := ⟨h.1, Nat.le_trans h.2 hK⟩
theorem El.kto (h : El w d o X J) (hK : J ≤ K) : El w d o X K := by
  obtain ⟨b, A, n, c, h1, h2, h3⟩ := h
  exact ⟨b, A, n, c, h1, h2, h3.kto hK⟩
theorem El.keep (h : El w d o X J) (hd : d < w.heap.size) (hb : Below w.heap.size w w') : El w' d o X J := by
  obtain ⟨b, A, n, c, h1, h2, h3⟩ := h
  exact ⟨b, A, n, c, (hb.cell (p := ⟨d, o, none⟩) hd).trans h1, (hb.cell (p := ⟨d, o + 1, none⟩) hd).trans h2, h3.keep hb⟩
theorem Sto.cell (s : Sto W g v) {p : Addr} (hp : p.block ≠ g) : v.cell? p = W.cell? p := World.cell?_of_block (s.block _ hp)
theorem El.sto (h : El W d o X J) (hd : d ≠ g) (s : Sto W g v) : El v d o X J := by
  obtain ⟨b, A, n, c, h1, h2, h3⟩ := h
  exact ⟨b, A, n, c, (s.cell (p := ⟨d, o, none⟩) hd).trans h1, (s.cell (p := ⟨d, o + 1, none⟩) hd).trans h2, Ms.ms (g := g) s trivial h3⟩
theorem Pd.len (h : Pd w B A n c l J) : l.length = n := h.1
theorem Pd.cap (h : Pd w B A n c l J) : n ≤ c := h.2.1
theorem Pd.big (h : Pd w B A n c l J) : n ≤ 100000 := h.2.2.1
theorem Pd.at_ (h : Pd w B A n c l J) (hn : 0 < n) : ∃ d o, A = some ⟨d, o, none⟩ ∧ d < B ∧ ∀ k (hk : k < l.length), El w d (o + k * 2) l[k] J := h.2.2.2 hn
theorem Pd.nil (w : World) (B J : Nat) : Pd w B none 0 0 [] J := ⟨rfl, Nat.le_refl _, by omega, fun h => absurd h (by omega)⟩
theorem Pd.kto (h : Pd w B A n c l J) (hK : J ≤ K) : Pd w B A n c l K := ⟨h.1, h.2.1, h.2.2.1, fun hn => by
  obtain ⟨d, o, e, hd, hc⟩ := h.at_ hn
  exact ⟨d, o, e, hd, fun k hk => (hc k hk).kto hK⟩⟩
theorem Pd.more (h : Pd w B A n c l J) (hB : B ≤ B') : Pd w B' A n c l J := ⟨h.1, h.2.1, h.2.2.1, fun hn => by
  obtain ⟨d, o, e, hd, hc⟩ := h.at_ hn
  exact ⟨d, o, e, by omega, hc⟩⟩
theorem Pd.keep (h : Pd w B A n c l J) (hB : B ≤ w.heap.size) (hb : Below w.heap.size w w') : Pd w' B A n c l J := ⟨h.1, h.2.1, h.2.2.1, fun hn => by
  obtain ⟨d, o, e, hd, hc⟩ := h.at_ hn
  exact ⟨d, o, e, hd, fun k hk => (hc k hk).keep (by omega) hb⟩⟩
theorem Pd.go (h : Pd w w.heap.size A n c l J) (hb : Below w.heap.size w w') : Pd w' w'.heap.size A n c l J := (h.keep (Nat.le_refl _) hb).more hb.size
theorem Pd.sto (h : Pd W B A n c l J) (hB : B ≤ g) (s : Sto W g v) : Pd v B A n c l J := ⟨h.1, h.2.1, h.2.2.1, fun hn => by
  obtain ⟨d, o, e, hd, hc⟩ := h.at_ hn
  exact ⟨d, o, e, hd, fun k hk => (hc k hk).sto (by omega) s⟩⟩
theorem Pd.take (h : Pd w B A n c l J) {m : Nat} (hm : m ≤ n) : Pd w B A m c (l.take m) J := by
  have h1 := h.len
  refine ⟨by simp; omega, Nat.le_trans hm h.cap, Nat.le_trans hm h.big, fun hn => ?_⟩
  obtain ⟨d, o, e, hd, hc⟩ := h.at_ (by omega)
  refine ⟨d, o, e, hd, fun k hk => ?_⟩
  rw [List.length_take] at hk
  rw [List.getElem_take]
  exact hc k (by omega)
theorem Pd.drop (h : Pd w B A n c l J) {m : Nat} (hm : m < n) : ∃ d o, A = some ⟨d, o, none⟩ ∧ Pd w B (some ⟨d, o + m * 2, none⟩) (n - m) (c - m) (l.drop m) J := by
  have h1 := h.len
  have h2 := h.cap
  have h3 := h.big
  obtain ⟨d, o, e, hd, hc⟩ := h.at_ (by omega)
  refine ⟨d, o, e, by simp; omega, by omega, by omega, fun hn => ⟨d, o + m * 2, rfl, hd, fun k hk => ?_⟩⟩
  rw [List.length_drop] at hk
  have := hc (m + k) (by omega)
  rw [Nat.add_mul, ← Nat.add_assoc] at this
  rwa [List.getElem_drop]
/-- One integer of a slice: its cells. -/
theorem Pd.cells (h : Pd w B A n c l J) {k : Nat} (hk : k < n) : ∃ d o b A' n' c', A = some ⟨d, o, none⟩ ∧ d < B ∧ w.cell? ⟨d, o + k * 2, none⟩ = some (.bool b) ∧ w.cell? ⟨d, o + k * 2 + 1, none⟩ = some (.slice A' n' c') ∧ Zr w b A' n' c' (l[k]'(by have := h.len; omega)) J := by
  obtain ⟨d, o, e, hd, hc⟩ := h.at_ (by omega)
  obtain ⟨b, A', n', c', h1, h2, h3⟩ := hc k (by have := h.len; omega)
  exact ⟨d, o, b, A', n', c', e, hd, h1, h2, h3⟩
theorem Zn.zero (w : World) (J : Nat) : Zn w none 0 0 0 J := ⟨by rw [Int.natAbs_zero, dg_zero]; exact Rd.nil, Nat.zero_le _⟩
theorem kd_zero (m : Nat) : Kd (Builtin.zeroCells #[Value.bool false, Value.slice none 0 0] m).toList := by
  intro u hu x
  simp only [Builtin.zeroCells, Array.toList_map, List.mem_map] at hu
  obtain ⟨i, _, rfl⟩ := hu
  have h2 : i % 2 = 0 ∨ i % 2 = 1 := by omega
  rcases h2 with h | h <;> simp [h]
theorem Pw.lt (h : Pw w g L J) : g < w.heap.size := by
  obtain ⟨cur, h, _⟩ := h
  exact (Array.getElem?_eq_some_iff.1 h).1
theorem Pw.kto (h : Pw w g L J) (hK : J ≤ K) : Pw w g L K := by
  obtain ⟨cur, h, h1, h2, h3, h4⟩ := h
  refine ⟨cur, h, h1, h2, h3, fun k hk => ?_⟩
  obtain ⟨A, n, c, a1, a2, a3⟩ := h4 k hk
  exact ⟨A, n, c, a1, a2, a3.kto hK⟩
theorem Pw.keep (h : Pw w g L J) (hb : Below w.heap.size w w') : Pw w' g L J := by
  have hl := h.lt
  obtain ⟨cur, h, h1, h2, h3, h4⟩ := h
  refine ⟨cur, (hb.block g hl).trans h, h1, h2, h3, fun k hk => ?_⟩
  obtain ⟨A, n, c, a1, a2, a3⟩ := h4 k hk
  exact ⟨A, n, c, a1, a2, a3.keep hb⟩
theorem Pw.nl (h : Pw w g L J) : Nl w g := by
  obtain ⟨cur, h, h1, h2, h3, h4⟩ := h
  exact nl_of h fun i y e => h3 _ (by have := Array.mem_of_getElem? e; simpa using this) y rfl
theorem Pw.sto {h : Nat} (p : Pw W h L J) (hh : h ≠ g) (s : Sto W g v) : Pw v h L J := by
  obtain ⟨cur, h, h1, h2, h3, h4⟩ := p
  refine ⟨cur, (s.block _ hh).trans h, h1, h2, h3, fun k hk => ?_⟩
  obtain ⟨A, n, c, a1, a2, a3⟩ := h4 k hk
  exact ⟨A, n, c, a1, a2, Ms.ms (g := g) s trivial a3⟩
theorem Pw.fr (h : Pw w g L J) (i : Nat) : w.frozen? ⟨g, i, none⟩ = false := by
  obtain ⟨cur, h, _⟩ := h
  simp [World.frozen?, h]
theorem Pw.len (h : Pw w g L J) : L.length ≤ 100000 := by
  obtain ⟨cur, h, h1, h2, _⟩ := h
  exact h2
theorem Pw.cells (h : Pw w g L J) {k : Nat} (hk : k < L.length) : ∃ A n c, w.cell? ⟨g, k * 2, none⟩ = some (.bool (ngB L[k])) ∧ w.cell? ⟨g, k * 2 + 1, none⟩ = some (.slice A n c) ∧ Zn w A n c L[k] J := by
  obtain ⟨cur, h, h1, h2, h3, h4⟩ := h
  obtain ⟨A, n, c, a1, a2, a3⟩ := h4 k hk
  refine ⟨A, n, c, ?_, ?_, a3⟩
  · rw [cell_of_row w g _ _ _ (0, 0) h]; exact a1
  · rw [cell_of_row w g _ _ _ (0, 0) h]; exact a2
theorem kd_set {cs : Array Value} {i : Nat} {u : Value} (h : Kd cs.toList) (hu : ∀ x, u ≠ .int .u64 x) : Kd (cs.setIfInBounds i u).toList := fun y hy x => by
  rw [Array.toList_setIfInBounds] at hy
  rcases List.mem_or_eq_of_mem_set hy with h1 | h1
  · exact h _ h1 x
  · rw [h1]; exact hu x
/-- An integer is laid into a slice of one's own. -/
theorem Pw.set (h : Pw W g L J) {k : Nat} (hk : k < L.length) (z : Zn W A n c X J) :
    Sto W g ((W.setCell ⟨g, k * 2, none⟩ (.bool (ngB X))).setCell ⟨g, k * 2 + 1, none⟩ (.slice A n c)) ∧ Pw ((W.setCell ⟨g, k * 2, none⟩ (.bool (ngB X))).setCell ⟨g, k * 2 + 1, none⟩ (.slice A n c)) g (L.set k X) J := by
  have N := h.nl
  have s : Sto W g ((W.setCell ⟨g, k * 2, none⟩ (.bool (ngB X))).setCell ⟨g, k * 2 + 1, none⟩ (.slice A n c)) := ((Sto.refl W g).set N).set N
  refine ⟨s, ?_⟩
  obtain ⟨cur, h, h1, h2, h3, h4⟩ := h
  refine ⟨(cur.setIfInBounds (k * 2) (.bool (ngB X))).setIfInBounds (k * 2 + 1) (.slice A n c), ?_, by simp [h1], by simp; exact h2, kd_set (kd_set h3 (by simp)) (by simp), fun i hi => ?_⟩
  · simp [World.setCell, Array.getElem?_modify, h]
  · have hi2 : i < L.length := by simpa using hi
    obtain ⟨A', n', c', a1, a2, a3⟩ := h4 i hi2
    by_cases hik : i = k
    · subst hik
      refine ⟨A, n, c, ?_, ?_, ?_⟩
      · rw [List.getElem_set_self, Array.getElem?_setIfInBounds, if_neg (by omega), Array.getElem?_setIfInBounds, if_pos rfl, if_pos (by omega)]
      · rw [Array.getElem?_setIfInBounds, if_pos rfl, if_pos (by simp; omega)]
      · rw [List.getElem_set_self]; exact Ms.ms (g := g) s trivial z
    · refine ⟨A', n', c', ?_, ?_, ?_⟩
      · rw [List.getElem_set_ne (by omega), Array.getElem?_setIfInBounds, if_neg (by omega), Array.getElem?_setIfInBounds, if_neg (by omega)]; exact a1
      · rw [Array.getElem?_setIfInBounds, if_neg (by omega), Array.getElem?_setIfInBounds, if_neg (by omega)]; exact a2
      · rw [List.getElem_set_ne (by omega)]; exact Ms.ms (g := g) s trivial a3
/-- A new block of zeros. -/
theorem Pw.of_heap {m : Nat} {cs : Array Value} (h : w.heap[g]? = some (.cells cs 32 (0, 0))) (hm : m ≤ 100000) (hcs : cs = Builtin.zeroCells #[.bool false, .slice none 0 0] m) : Pw w g (List.replicate m 0) J := by
  subst hcs
  refine ⟨_, h, by simp [size_zeroCells], by simpa using hm, kd_zero m, fun k hk => ?_⟩
  have hk2 : k < m := by simpa using hk
  refine ⟨none, 0, 0, ?_, ?_, ?_⟩
  · rw [List.getElem_replicate]
    simp [Builtin.zeroCells, ngB]
    exact ⟨k * 2, by rw [Array.getElem?_eq_getElem (by simp only [Array.size_range]; omega), Array.getElem_range], by rw [Nat.mul_mod_left]; rfl⟩
  · simp [Builtin.zeroCells]
    exact ⟨k * 2 + 1, by rw [Array.getElem?_eq_getElem (by simp only [Array.size_range]; omega), Array.getElem_range], by rw [show (k * 2 + 1) % 2 = 1 by omega]; rfl⟩
  · rw [List.getElem_replicate]; exact ⟨by rw [Int.natAbs_zero, dg_zero]; exact Rd.nil, Nat.zero_le _⟩
theorem Pw.rd (h : Pw w g L J) {B : Nat} (hB : g < B) {o m c : Nat} (hm : o + m ≤ L.length) (hc : m ≤ c) : Pd w B (some ⟨g, o * 2, none⟩) m c ((L.drop o).take m) J := by
  have h0 := h.len
  refine ⟨by simp; omega, hc, by omega, fun hn => ⟨g, o * 2, rfl, hB, fun k hk => ?_⟩⟩
  rw [List.length_take, List.length_drop] at hk
  obtain ⟨A, n, c, a1, a2, a3⟩ := h.cells (k := o + k) (by omega)
  rw [List.getElem_take, List.getElem_drop]
  rw [Nat.add_mul] at a1 a2
  exact ⟨_, A, n, c, a1, a2, a3.zr⟩
theorem Po.pd (h : Po w B A n c l J) : Pd w w.heap.size A n c l J := by
  rcases h with ⟨rfl, rfl, rfl, rfl⟩ | ⟨g, L, rfl, hg, rfl, hn, hp, rfl⟩
  · exact Pd.nil _ _ _
  · have := hp.rd hp.lt (o := 0) (m := n) (c := L.length) (by omega) hn
    simpa using this
theorem Po.keep (h : Po w B A n c l J) (hb : Below w.heap.size w w') : Po w' B A n c l J := by
  rcases h with h | ⟨g, L, e, hg, hc, hn, hp, hl⟩
  · exact .inl h
  · exact .inr ⟨g, L, e, hg, hc, hn, hp.keep hb, hl⟩
theorem Po.more (h : Po w B A n c l J) (hB : B' ≤ B) : Po w B' A n c l J := by
  rcases h with h | ⟨g, L, e, hg, hc, hn, hp, hl⟩
  · exact .inl h
  · exact .inr ⟨g, L, e, by omega, hc, hn, hp, hl⟩
theorem Po.kto (h : Po w B A n c l J) (hK : J ≤ K) : Po w B A n c l K := by
  rcases h with h | ⟨g, L, e, hg, hc, hn, hp, hl⟩
  · exact .inl h
  · exact .inr ⟨g, L, e, hg, hc, hn, hp.kto hK, hl⟩
theorem Pw.po (h : Pw w g L J) (hB : B ≤ g) : Po w B (some ⟨g, 0, none⟩) L.length L.length L J := .inr ⟨g, L, rfl, hB, rfl, Nat.le_refl _, h, by simp⟩
end
/-- What was there stands as it stood but for the blocks of P, and so does every limb. -/
structure Fz (P : Nat → Prop) (W w' : World) : Prop where
  os : w'.os = W.os
  tape : w'.tape = W.tape
  output : w'.output = W.output
  size : W.heap.size ≤ w'.heap.size
  block : ∀ k, k < W.heap.size → ¬ P k → w'.heap[k]? = W.heap[k]?
  rd : ∀ A n c l, Rd W W.heap.size A n c l → Rd w' w'.heap.size A n c l
section
variable {P Q : Nat → Prop} {W v w' w0 : World} {g d o n c J B : Nat} {b : Bool} {A : Option Addr} {X : Int} {l L : List Int}
theorem Fz.of (hb : Below W.heap.size W w') : Fz P W w' := ⟨hb.os, hb.tape, hb.output, hb.size, fun k hk _ => hb.block k hk, fun _ _ _ _ h => (h.below hb).more hb.size⟩
theorem Fz.refl (W : World) : Fz P W W := Fz.of (Below.refl _ _)
theorem Fz.trans (h : Fz P W v) (h2 : Fz P v w') : Fz P W w' := ⟨h2.os.trans h.os, h2.tape.trans h.tape, h2.output.trans h.output, Nat.le_trans h.size h2.size, fun k hk hp => (h2.block k (Nat.lt_of_lt_of_le hk h.size) hp).trans (h.block k hk hp), fun _ _ _ _ r => h2.rd _ _ _ _ (h.rd _ _ _ _ r)⟩
theorem Fz.thenB (h : Fz P W v) (h2 : Below v.heap.size v w') : Fz P W w' := h.trans (Fz.of h2)
theorem Fz.mono (h : Fz P W w') (hp : ∀ b, b < W.heap.size → P b → Q b) : Fz Q W w' := ⟨h.os, h.tape, h.output, h.size, fun k hk hq => h.block k hk (fun q => hq (hp k hk q)), h.rd⟩
theorem Fz.below (h : Fz P W w') (hp : ∀ b, b < W.heap.size → ¬ P b) : Below W.heap.size W w' := ⟨h.os, h.tape, h.output, h.size, fun k hk => h.block k hk (hp k hk)⟩
/-- What comes behind turns new blocks too. -/
theorem Fz.more (h : Fz P W v) (h2 : Fz Q v w') (hp : ∀ b, b < W.heap.size → Q b → P b) : Fz P W w' := ⟨h2.os.trans h.os, h2.tape.trans h.tape, h2.output.trans h.output, Nat.le_trans h.size h2.size, fun k hk hn => (h2.block k (Nat.lt_of_lt_of_le hk h.size) (fun q => hn (hp k hk q))).trans (h.block k hk hn), fun _ _ _ _ r => h2.rd _ _ _ _ (h.rd _ _ _ _ r)⟩
theorem Sto.fz (s : Sto W g v) : Fz (fun b => b = g) W v := ⟨s.os, s.tape, s.output, Nat.le_of_eq s.size.symm, fun k _ hk => s.block k hk, fun _ _ _ _ r => r.sto s⟩
theorem Fz.sto (h : Fz P W v) (s : Sto v g w') (hg : W.heap.size ≤ g ∨ P g) : Fz P W w' := h.more s.fz fun b hb e => by
  subst e
  rcases hg with hg | hg
  · omega
  · exact hg
instance : Mv (Fz P w0 W) W v (Fz P w0 v) := ⟨fun x y => x.thenB y⟩
instance : Ms (Fz P w0 W) W v g (w0.heap.size ≤ g ∨ P g) (Fz P w0 v) := ⟨fun s hg x => x.sto s hg⟩
theorem Zr.via (h : Zr W b A n c X J) (f : Fz P W w') : Zr w' b A n c X J := by
  obtain ⟨l, h1, h2, h3⟩ := h
  exact ⟨l, f.rd _ _ _ _ h1, h2, h3⟩
theorem Zn.via (h : Zn W A n c X J) (f : Fz P W w') : Zn w' A n c X J := ⟨f.rd _ _ _ _ h.1, h.2⟩
theorem Bx.via (h : Bx W g b A n c) (f : Fz P W w') (hp : ¬ P g) : Bx w' g b A n c := (f.block g h.lt hp).trans h
theorem El.via (h : El W d o X J) (hd : d < W.heap.size) (f : Fz P W w') (hp : ¬ P d) : El w' d o X J := by
  obtain ⟨b, A, n, c, h1, h2, h3⟩ := h
  exact ⟨b, A, n, c, (World.cell?_of_block (f.block d hd hp)).trans h1, (World.cell?_of_block (f.block d hd hp)).trans h2, h3.via f⟩
theorem Pd.via (h : Pd W B A n c l J) (hB : B ≤ W.heap.size) (f : Fz P W w') (hp : ∀ b, P b → B ≤ b) : Pd w' B A n c l J := ⟨h.1, h.2.1, h.2.2.1, fun hn => by
  obtain ⟨d, o, e, hd, hc⟩ := h.at_ hn
  exact ⟨d, o, e, hd, fun k hk => (hc k hk).via (by omega) f (fun hq => by have := hp _ hq; omega)⟩⟩
theorem Pw.via (h : Pw W g L J) (f : Fz P W w') (hp : ¬ P g) : Pw w' g L J := by
  have hl := h.lt
  obtain ⟨cur, h, h1, h2, h3, h4⟩ := h
  refine ⟨cur, (f.block g hl hp).trans h, h1, h2, h3, fun k hk => ?_⟩
  obtain ⟨A, n, c, a1, a2, a3⟩ := h4 k hk
  exact ⟨A, n, c, a1, a2, a3.via f⟩
/-- At place o of block d lie the cells of an integer. -/
def Ec (w : World) (d o : Nat) (b : Bool) (A : Option Addr) (n c : Nat) : Prop := d < w.heap.size ∧ w.cell? ⟨d, o, none⟩ = some (.bool b) ∧ w.cell? ⟨d, o + 1, none⟩ = some (.slice A n c)
/-- A slice of integers below a block that is there. -/
def Pe (w : World) (B : Nat) (A : Option Addr) (n c : Nat) (l : List Int) (J : Nat) : Prop := B ≤ w.heap.size ∧ Pd w B A n c l J
theorem Ec.al (h : Ec W d o b A n c) : W.cell? ⟨d, o, none⟩ = some (.bool b) ∧ W.cell? ⟨d, o + 1, none⟩ = some (.slice A n c) := h.2
theorem Ec.c0 (h : Ec W d o b A n c) : W.cell? ⟨d, o, none⟩ = some (.bool b) := h.2.1
theorem Ec.c1 (h : Ec W d o b A n c) : W.cell? ⟨d, o + 1, none⟩ = some (.slice A n c) := h.2.2
theorem Ec.lt (h : Ec W d o b A n c) : d < W.heap.size := h.1
theorem Ec.keep (h : Ec W d o b A n c) (hb : Below W.heap.size W v) : Ec v d o b A n c := ⟨Nat.lt_of_lt_of_le h.1 hb.size, (hb.cell (p := ⟨d, o, none⟩) h.1).trans h.2.1, (hb.cell (p := ⟨d, o + 1, none⟩) h.1).trans h.2.2⟩
theorem Ec.sto (h : Ec W d o b A n c) (hd : d ≠ g) (s : Sto W g v) : Ec v d o b A n c := ⟨by rw [s.size]; exact h.1, (s.cell (p := ⟨d, o, none⟩) hd).trans h.2.1, (s.cell (p := ⟨d, o + 1, none⟩) hd).trans h.2.2⟩
theorem Ec.aside {b' : Bool} {A' : Option Addr} {n' c' : Nat} (h : Ec W d o b A n c) (hd : d ≠ g) : Ec ((W.setCell ⟨g, 0, none⟩ (.bool b')).setCell ⟨g, 1, none⟩ (.slice A' n' c')) d o b A n c :=
  ⟨by simpa [World.setCell] using h.1, (World.cell?_setCell_other _ _ _ _ (fun e => hd (by injection e with e1; exact e1.symm))).trans ((World.cell?_setCell_other _ _ _ _ (fun e => hd (by injection e with e1; exact e1.symm))).trans h.2.1),
    (World.cell?_setCell_other _ _ _ _ (fun e => hd (by injection e with e1; exact e1.symm))).trans ((World.cell?_setCell_other _ _ _ _ (fun e => hd (by injection e with e1; exact e1.symm))).trans h.2.2)⟩
theorem Ec.via (h : Ec W d o b A n c) (f : Fz P W w') (hp : ¬ P d) : Ec w' d o b A n c := ⟨Nat.lt_of_lt_of_le h.1 f.size, (World.cell?_of_block (f.block d h.1 hp)).trans h.2.1, (World.cell?_of_block (f.block d h.1 hp)).trans h.2.2⟩
theorem Pd.drw (h : Pd W B A n c l J) : Pd W.drew B A n c l J := h
theorem Ec.drw (h : Ec W d o b A n c) : Ec W.drew d o b A n c := h
theorem Pd.pe (h : Pd W W.heap.size A n c l J) : Pe W W.heap.size A n c l J := ⟨Nat.le_refl _, h⟩
theorem Pe.pd (h : Pe W B A n c l J) : Pd W W.heap.size A n c l J := h.2.more h.1
theorem Pe.drw (h : Pe W B A n c l J) : Pe W.drew B A n c l J := h
theorem Pe.len (h : Pe W B A n c l J) : l.length = n := h.2.len
theorem Pe.big (h : Pe W B A n c l J) : n ≤ 100000 := h.2.big
theorem Pe.cap (h : Pe W B A n c l J) : n ≤ c := h.2.cap
theorem Pe.keep (h : Pe W B A n c l J) (hb : Below W.heap.size W v) : Pe v B A n c l J := ⟨Nat.le_trans h.1 hb.size, h.2.keep h.1 hb⟩
theorem Pe.via (h : Pe W B A n c l J) (f : Fz P W w') (hp : ∀ b, P b → B ≤ b) : Pe w' B A n c l J := ⟨Nat.le_trans h.1 f.size, h.2.via h.1 f hp⟩
/-- One integer of a slice. -/
theorem Pe.ec (h : Pe W B A n c l J) {k : Nat} (hk : k < n) : ∃ d o b A' n' c', A = some ⟨d, o, none⟩ ∧ d < B ∧ Ec W d (o + k * 2) b A' n' c' ∧ Zr W b A' n' c' (l[k]'(by have := h.len; omega)) J := by
  obtain ⟨d, o, b, A', n', c', e, hd, h1, h2, z⟩ := h.2.cells hk
  exact ⟨d, o, b, A', n', c', e, hd, ⟨Nat.lt_of_lt_of_le hd h.1, h1, h2⟩, z⟩
theorem Pw.ec (h : Pw W g L J) {k : Nat} (hk : k < L.length) : ∃ A n c, Ec W g (k * 2) (ngB L[k]) A n c ∧ Zn W A n c L[k] J := by
  obtain ⟨A, n, c, h1, h2, z⟩ := h.cells hk
  exact ⟨A, n, c, ⟨h.lt, h1, h2⟩, z⟩
theorem Pw.drw (h : Pw W g L J) : Pw W.drew g L J := h
theorem Pw.st {F : World → Prop} {k : Nat} (h : Pw W g L J) (hk : k < L.length) (z : Zn W A n c X J) (K : ∀ v, Sto W g v → Pw v g (L.set k X) J → F v) :
    F ((W.setCell ⟨g, k * 2, none⟩ (.bool (ngB X))).setCell ⟨g, k * 2 + 1, none⟩ (.slice A n c)) := K _ (h.set hk z).1 (h.set hk z).2
theorem Pw.stc {C : Program} {f : Nat} {a : Array Value} {Q : Ending → World → Prop} {k : Nat} (h : Pw W g L J) (hk : k < L.length) (z : Zn W A n c X J) (K : ∀ v, Sto W g v → Pw v g (L.set k X) J → Calls C f a v Q) :
    Calls C f a ((W.setCell ⟨g, k * 2, none⟩ (.bool (ngB X))).setCell ⟨g, k * 2 + 1, none⟩ (.slice A n c)) Q := h.st (F := fun v => Calls C f a v Q) hk z K
instance : Mv (Ec W d o b A n c) W v (Ec v d o b A n c) := ⟨fun x y => x.keep y⟩
instance : Mv (Pe W B A n c l J) W v (Pe v B A n c l J) := ⟨fun x y => x.keep y⟩
instance : Mv (Pw W g L J) W v (Pw v g L J) := ⟨fun x y => x.keep y⟩
instance : Mv (Po W B A n c l J) W v (Po v B A n c l J) := ⟨fun x y => x.keep y⟩
instance : Ms (Ec W d o b A n c) W v g (d ≠ g) (Ec v d o b A n c) := ⟨fun s hg x => x.sto hg s⟩
instance : Ms (Pe W B A n c l J) W v g (B ≤ g) (Pe v B A n c l J) := ⟨fun s hg x => ⟨by rw [s.size]; exact x.1, x.2.sto hg s⟩⟩
instance {h : Nat} : Ms (Pw W h L J) W v g (h ≠ g) (Pw v h L J) := ⟨fun s hg x => x.sto hg s⟩
end
theorem Try.infoI : (Try.prog.info? 32).map (fun i => (i.zero, i.size, i.bytes)) = some (some (.agg #[.bool false, .slice none 0 0]), 2, 32) := by kernel_rfl
/-- A new slice of zeros. -/
theorem wp_makeP {w : World} {ops : Array Oper} {rest : List Oper} {o : Oper} {a : Act} {Q : Exit → Act → World → Prop} (hg : o.guard = none) (l c : Operand) (hop : o.op = Op.makeSlice 40 l c)
    (n J : Nat) (L C : Int) (hl : a.eval l = .int .i64 L) (hc : a.eval c = .int .i64 C) (hL : L = (n : Int)) (hC : C = (n : Int)) (hn : n ≤ 100000)
    (hK : ∀ w', Pw w' w.heap.size (List.replicate n 0) J → Below w.heap.size w w' → wpList Try.prog ops Q rest (a.put o.dst (.slice (some ⟨w.heap.size, 0, none⟩) n n)) w') :
    wpList Try.prog ops Q (o :: rest) a w := by
  obtain ⟨i0, hi, hz0, hz1, hz2⟩ := info_parts Try.infoI
  refine wpList_make_full w hg l c 40 hop 0 32 i0 (.agg #[.bool false, .slice none 0 0]) 2 Try.underlying40 hi hz0 hz1 .i64 .i64 L C n hl hc hL hC (by rw [hz2]; omega) (by unfold maxLen; omega) (Nat.zero_le _) ?_
  intro w' hown hgrow
  refine hK w' ?_ ⟨hgrow.os, hgrow.tape, hgrow.output, hgrow.size, fun k hk => hgrow.block k hk (by simp)⟩
  obtain ⟨_, h2⟩ := hown
  rcases h2 with ⟨h, _⟩ | ⟨g, cap, cur, hv, _, hh, hnc, _, hcs, hxs⟩
  · cases h
  · injection hv with hv1 hv2 hv3
    injection hv1 with hv1
    injection hv1 with hv1
    subst hv1 hv3
    have e : cur = Builtin.zeroCells #[.bool false, .slice none 0 0] n := by
      rw [List.take_of_length_le (by simp; omega)] at hxs
      exact Array.toList_inj.1 hxs
    exact Pw.of_heap hh hn e
end Go.Proofs.Ytnidohbbimfpjaa
