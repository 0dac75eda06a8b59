/-
  append of an integer to a slice of integers that the call itself has made.
-/
import Derived.Test.YthlpdljkclngdaaGreatPe
import Derived.Laws.AppendOwn
namespace Go.Proofs.YthlpdljkclngdaaGreat
open Go.RowKit
set_option linter.unusedVariables false
set_option maxRecDepth 100000

theorem Tryz.infoI : (Tryz.prog.info? 24).map (fun i => (i.zero, i.size, i.bytes)) = some (some (.agg #[.bool false, .slice none 0 0]), 2, 32) := by kernel_rfl
/-- No limb is among these cells. -/
def Kd (l : List Value) : Prop := ∀ u ∈ l, ∀ x, u ≠ .int .u64 x
/-- Block g is a slice's of n integers, with room for cap, and holds no limb. -/
def Oz (w : World) (g n cap : Nat) (xs : List Value) : Prop :=
  ∃ cur : Array Value, w.heap[g]? = some (.cells cur 24 (0, 0)) ∧ n ≤ cap ∧ cap ≤ maxLen ∧ cur.size = cap * 2 ∧ cur.toList.take (n * 2) = xs ∧ xs.length = n * 2 ∧ Kd cur.toList
section
variable {w w' : World} {g n cap : Nat} {xs : List Value}
theorem Oz.lt (h : Oz w g n cap xs) : g < w.heap.size := by
  obtain ⟨cur, h, _⟩ := h
  exact (Array.getElem?_eq_some_iff.1 h).1
theorem Oz.to (h : Oz w g n cap xs) (hb : w'.heap[g]? = w.heap[g]?) : Oz w' g n cap xs := by
  obtain ⟨cur, h, hc⟩ := h
  exact ⟨cur, hb.trans h, hc⟩
theorem Oz.keep (h : Oz w g n cap xs) (hb : Below w.heap.size w w') : Oz w' g n cap xs := h.to (hb.block g h.lt)
theorem Oz.alloc (h : Oz w g n cap xs) (o : Obj) : Oz (w.alloc o) g n cap xs := h.to (Below.heap_alloc w o g h.lt)
theorem Oz.drw (h : Oz w g n cap xs) : Oz w.drew g n cap xs := h
theorem Oz.far (h : Oz w g n cap xs) {z : Addr} (hp : g ≠ z.block) (u : Value) : Oz (w.setCell z u) g n cap xs := h.to (Below.heap_setCell w z u g hp)
theorem Oz.by_ {k : Nat} (h : Oz w g n cap xs) (hg : w.grownBy w' (some k)) (hne : g ≠ k) : Oz w' g n cap xs := h.to (hg.block g h.lt (fun e => by injection e with e; exact hne e))
theorem Oz.cell (h : Oz w g n cap xs) (i : Nat) (u : Value) (hu : w.cell? ⟨g, i, none⟩ = some u) : ∀ x, u ≠ .int .u64 x := by
  obtain ⟨cur, h, _, _, _, _, _, hk⟩ := h
  rw [cell_of_row w g i _ _ (0, 0) h] at hu
  exact hk u (by have := Array.mem_of_getElem? hu; simpa using this)
/-- An integer's limbs stay where they are: the slice's block holds none. -/
theorem Zn.by_ {A : Option Addr} {m c K : Nat} {X : Int} (z : Zn w A m c X K) (h : Oz w g n cap xs) (hg : w.grownBy w' (some g)) : Zn w' A m c X K := by
  refine ⟨⟨z.1.1, z.1.2.1, z.1.2.2.1, z.1.2.2.2.1, fun hn => ?_⟩, z.2⟩
  obtain ⟨d, off, e, hd, hc⟩ := z.1.at_ hn
  have hne : d ≠ g := fun e2 => by
    subst e2
    have h0 := hc 0 (by have := z.1.len; omega)
    exact h.cell _ _ h0 _ rfl
  refine ⟨d, off, e, Nat.lt_of_lt_of_le hd hg.size, fun k hk => ?_⟩
  rw [← hc k hk]
  exact World.cell?_of_block (hg.block d hd (fun e => by injection e with e; exact hne e))
end
theorem below_by {B : Nat} {w0 w w' : World} {g : Nat} (hb : Below B w0 w) (hs : B ≤ w.heap.size) (hg : w.grownBy w' (some g)) (hB : B ≤ g) : Below B w0 w' :=
  ⟨hg.os.trans hb.os, hg.tape.trans hb.tape, hg.output.trans hb.output, Nat.le_trans hb.size hg.size, fun k hk => (hg.block k (Nat.lt_of_lt_of_le hk hs) (fun e => by injection e with e; omega)).trans (hb.block k hk)⟩
theorem kd_zero (m : Nat) : Kd (Builtin.zeroCells #[Value.bool false, Value.slice none 0 0] m).toList := by
  intro u hu x
  simp only [Builtin.zeroCells, Array.toList_map, List.mem_map] at hu
  obtain ⟨i, _, rfl⟩ := hu
  have h2 : i % 2 = 0 ∨ i % 2 = 1 := by omega
  rcases h2 with h | h <;> simp [h]
theorem kd_app {a b : List Value} (ha : Kd a) (hb : Kd b) : Kd (a ++ b) := fun u hu x => by
  rcases List.mem_append.1 hu with h | h
  · exact ha u h x
  · exact hb u h x
theorem kd_two (b : Bool) (A : Option Addr) (m c : Nat) : Kd [.bool b, .slice A m c] := fun u hu x => by
  simp at hu
  rcases hu with rfl | rfl <;> simp
theorem two_cells {w : World} {g0 : Nat} {b : Bool} {A : Option Addr} {m c : Nat} (h0 : w.cell? ⟨g0, 0, none⟩ = some (.bool b)) (h1 : w.cell? ⟨g0, 1, none⟩ = some (.slice A m c)) :
    ∀ j u, [Value.bool b, Value.slice A m c][j]? = some u → w.cell? ((⟨g0, 0, none⟩ : Addr).add j) = some u := by
  intro j u hj
  match j, hj with
  | 0, hj => simp at hj; subst hj; simpa [Addr.add] using h0
  | 1, hj => simp at hj; subst hj; simpa [Addr.add] using h1
theorem run_pushZ0 (w : World) (ty : TypeId) {g0 : Nat} {b : Bool} {A : Option Addr} {m c : Nat} (h0 : w.cell? ⟨g0, 0, none⟩ = some (.bool b)) (h1 : w.cell? ⟨g0, 1, none⟩ = some (.slice A m c)) :
    ∃ cap w', (Builtin.append_ #[49, 49] ty #[.slice none 0 0, .slice (some ⟨g0, 0, none⟩) 1 1]).run Tryz.prog w = .ok (.slice (some ⟨w.heap.size, 0, none⟩) 1 cap) w' ∧ Oz w' w.heap.size 1 cap [.bool b, .slice A m c] ∧ Below w.heap.size w w' := by
  obtain ⟨i0, hi, hz0, hz1, hz2⟩ := info_parts Tryz.infoI
  have hr := run_append_nil (P := Tryz.prog) w 49 ty 24 i0 _ Tryz.underlying49 hi hz0 ⟨g0, 0, none⟩ 1 1 [.bool b, .slice A m c] (by rw [hz1]; rfl) (two_cells h0 h1) (by omega) (by omega) (by rw [hz2]; omega)
  have hge := grownCap_ge w 1 0 24
  refine ⟨_, _, hr, ⟨_, heap_alloc_new w.drew _, hge, grownCap_le_maxLen w 1 0 _ (by unfold maxLen; omega), ?_, ?_, rfl, ?_⟩, (below_drew (Below.refl w.heap.size w)).alloc (Nat.le_refl _) _⟩
  · simp only [Array.size_append, List.size_toArray, size_zeroCells]
    simp [Value.cells]
    omega
  · simp
  · rw [Array.toList_append]
    exact kd_app (kd_two b A m c) (kd_zero _)
theorem run_pushZ (w : World) (ty : TypeId) {g n cap : Nat} {xs : List Value} (h : Oz w g n cap xs) (hn : n ≤ 1000) {g0 : Nat} {b : Bool} {A : Option Addr} {m c : Nat} (h0 : w.cell? ⟨g0, 0, none⟩ = some (.bool b)) (h1 : w.cell? ⟨g0, 1, none⟩ = some (.slice A m c)) :
    ∃ g' cap' w', (Builtin.append_ #[49, 49] ty #[.slice (some ⟨g, 0, none⟩) n cap, .slice (some ⟨g0, 0, none⟩) 1 1]).run Tryz.prog w = .ok (.slice (some ⟨g', 0, none⟩) (n + 1) cap') w' ∧ Oz w' g' (n + 1) cap' (xs ++ [.bool b, .slice A m c]) ∧ w.grownBy w' (some g) ∧ (g' = g ∨ g' = w.heap.size) := by
  obtain ⟨i0, hi, hz0, hz1, hz2⟩ := info_parts Tryz.infoI
  obtain ⟨cur, hh, hnc, hcm, hcs, htk, hxl, hk⟩ := h
  by_cases hroom : n + 1 ≤ cap
  · have hr := run_append_room (P := Tryz.prog) w 49 ty 24 i0 Tryz.underlying49 hi g n cap cur hh ⟨g0, 0, none⟩ 1 1 [.bool b, .slice A m c] (by rw [hz1]; rfl) (two_cells h0 h1) (fun u hu => by simp at hu; rcases hu with rfl | rfl <;> rfl) hroom (by rw [hz1, hcs]; simp; omega)
    rw [hz1] at hr
    refine ⟨g, cap, _, hr, ⟨_, setRow_heap w g cur _ _ _ hh, hroom, hcm, ?_, ?_, by simp [hxl]; omega, ?_⟩, ⟨rfl, rfl, rfl, by simp [World.setRow], fun k _ hk => setRow_other w g k _ (fun e => hk (by rw [e]))⟩, .inl rfl⟩
    · simp [hcs]
      omega
    · rw [htk, show (n + 1) * 2 = (xs ++ [Value.bool b, Value.slice A m c]).length by simp [hxl]; omega]
      exact List.take_left
    · refine kd_app (kd_app ?_ (kd_two b A m c)) ?_
      · exact fun u hu x => hk u (List.mem_of_mem_take hu) x
      · exact fun u hu x => hk u (List.mem_of_mem_drop hu) x
  · have hxk : Kd xs := fun u hu x => hk u (List.mem_of_mem_take (by rw [htk]; exact hu)) x
    have hr := run_append_grow (P := Tryz.prog) w 49 ty 24 i0 _ Tryz.underlying49 hi hz0 ⟨g, 0, none⟩ n cap xs (by rw [hz1]; exact hxl) (fun j u hj => by
        have hjl : j < xs.length := (List.getElem?_eq_some_iff.1 hj).1
        have hcj : w.cell? ⟨g, j, none⟩ = some u := by
          rw [cell_of_row w g j _ _ (0, 0) hh, ← hj, ← htk, List.getElem?_take_of_lt (by omega)]
          simp
        unfold Addr.add
        by_cases hj0 : j = 0
        · subst hj0; simpa using hcj
        · simpa [hj0] using hcj) ⟨g0, 0, none⟩ 1 1 [.bool b, .slice A m c] (by rw [hz1]; rfl) (two_cells h0 h1) (by omega) (by omega) (growslice_fits (by omega) (by rw [hz2]; omega))
    have hge := grownCap_ge w (n + 1) cap 24
    refine ⟨_, _, _, hr, ⟨_, heap_alloc_new w.drew _, hge, grownCap_le_maxLen w (n + 1) cap _ (by unfold maxLen; omega), ?_, ?_, by simp [hxl]; omega, ?_⟩, ⟨rfl, rfl, rfl, by simp, fun k hk _ => heap_alloc_old w.drew _ hk⟩, .inr rfl⟩
    · simp only [Array.size_append, List.size_toArray, size_zeroCells]
      simp [Value.cells, hxl]
      omega
    · simp only [Array.toList_append, List.append_assoc]
      rw [← List.append_assoc, show (n + 1) * 2 = (xs ++ [Value.bool b, Value.slice A m c]).length by simp [hxl]; omega]
      exact List.take_left
    · simp only [Array.toList_append]
      exact kd_app (kd_app hxk (kd_two b A m c)) (kd_zero _)
/-- What append does, at the operation: onto nothing, onto some. -/
theorem wpo_pushZ0 {W : World} {o : Oper} {a : Act} {K : Act → World → Prop} {Q : Exit → Act → World → Prop} (s x : Operand)
    (hop : o.op = .call { callee := .builtin .append, args := #[s, x], argTypes := #[49, 49] }) (hs : a.eval s = .slice none 0 0)
    {g0 : Nat} {b : Bool} {A : Option Addr} {m c : Nat} (hx : a.eval x = .slice (some ⟨g0, 0, none⟩) 1 1) (h0 : W.cell? ⟨g0, 0, none⟩ = some (.bool b)) (h1 : W.cell? ⟨g0, 1, none⟩ = some (.slice A m c))
    (hK : ∀ cap w', Oz w' W.heap.size 1 cap [.bool b, .slice A m c] → Below W.heap.size W w' → K (a.put o.dst (.slice (some ⟨W.heap.size, 0, none⟩) 1 cap)) w') : o.wp Tryz.prog a W K Q := by
  obtain ⟨cap, w', hr, h2, h3⟩ := run_pushZ0 W o.type h0 h1
  unfold Oper.wp execOp
  simp only [hop, resolve, invoke, builtin, Sem.run_bind, Sem.run_pure, Result.andThen_ok, List.map_toArray, List.map_cons, List.map_nil, hs, hx, hr]
  exact hK _ _ h2 h3
theorem wpo_pushZ {W : World} {o : Oper} {a : Act} {K : Act → World → Prop} {Q : Exit → Act → World → Prop} (s x : Operand)
    (hop : o.op = .call { callee := .builtin .append, args := #[s, x], argTypes := #[49, 49] }) {g n cap : Nat} {xs : List Value} (hs : a.eval s = .slice (some ⟨g, 0, none⟩) n cap) (h : Oz W g n cap xs) (hn : n ≤ 1000)
    {g0 : Nat} {b : Bool} {A : Option Addr} {m c : Nat} (hx : a.eval x = .slice (some ⟨g0, 0, none⟩) 1 1) (h0 : W.cell? ⟨g0, 0, none⟩ = some (.bool b)) (h1 : W.cell? ⟨g0, 1, none⟩ = some (.slice A m c))
    (hK : ∀ g' cap' w', Oz w' g' (n + 1) cap' (xs ++ [.bool b, .slice A m c]) → W.grownBy w' (some g) → (g' = g ∨ g' = W.heap.size) → K (a.put o.dst (.slice (some ⟨g', 0, none⟩) (n + 1) cap')) w') : o.wp Tryz.prog a W K Q := by
  obtain ⟨g', cap', w', hr, h2, h3, h4⟩ := run_pushZ W o.type h hn h0 h1
  unfold Oper.wp execOp
  simp only [hop, resolve, invoke, builtin, Sem.run_bind, Sem.run_pure, Result.andThen_ok, List.map_toArray, List.map_cons, List.map_nil, hs, hx, hr]
  exact hK _ _ _ h2 h3 h4
theorem step_pushZ0 {W : World} {ops : Array Oper} {o : Oper} {a : Act} {K : Act → World → Prop} {Q : Exit → Act → World → Prop} {E : Prop} (hgd : o.guard = none) (s x : Operand)
    (hop : o.op = .call { callee := .builtin .append, args := #[s, x], argTypes := #[49, 49] }) (hs : a.eval s = .slice none 0 0)
    {g0 : Nat} {b : Bool} {A : Option Addr} {m c : Nat} (hx : a.eval x = .slice (some ⟨g0, 0, none⟩) 1 1) (h0 : W.cell? ⟨g0, 0, none⟩ = some (.bool b)) (h1 : W.cell? ⟨g0, 1, none⟩ = some (.slice A m c))
    (hK : ∀ cap w', Oz w' W.heap.size 1 cap [.bool b, .slice A m c] → Below W.heap.size W w' → K (a.put o.dst (.slice (some ⟨W.heap.size, 0, none⟩) 1 cap)) w') :
    if Region.wanted o (yielded ops a.tmps) = true then Oper.wp Tryz.prog o a W K Q else E := by
  rw [if_pos (by simp [Region.wanted, hgd])]
  exact wpo_pushZ0 s x hop hs hx h0 h1 hK
theorem step_pushZ {W : World} {ops : Array Oper} {o : Oper} {a : Act} {K : Act → World → Prop} {Q : Exit → Act → World → Prop} {E : Prop} (hgd : o.guard = none) (s x : Operand)
    (hop : o.op = .call { callee := .builtin .append, args := #[s, x], argTypes := #[49, 49] }) {g n cap : Nat} {xs : List Value} (hs : a.eval s = .slice (some ⟨g, 0, none⟩) n cap) (h : Oz W g n cap xs) (hn : n ≤ 1000)
    {g0 : Nat} {b : Bool} {A : Option Addr} {m c : Nat} (hx : a.eval x = .slice (some ⟨g0, 0, none⟩) 1 1) (h0 : W.cell? ⟨g0, 0, none⟩ = some (.bool b)) (h1 : W.cell? ⟨g0, 1, none⟩ = some (.slice A m c))
    (hK : ∀ g' cap' w', Oz w' g' (n + 1) cap' (xs ++ [.bool b, .slice A m c]) → W.grownBy w' (some g) → (g' = g ∨ g' = W.heap.size) → K (a.put o.dst (.slice (some ⟨g', 0, none⟩) (n + 1) cap')) w') :
    if Region.wanted o (yielded ops a.tmps) = true then Oper.wp Tryz.prog o a W K Q else E := by
  rw [if_pos (by simp [Region.wanted, hgd])]
  exact wpo_pushZ s x hop hs h hn hx h0 h1 hK
theorem wp_pushZ0 {W : World} {ops : Array Oper} {rest : List Oper} {o : Oper} {a : Act} {Q : Exit → Act → World → Prop} (hgd : o.guard = none) (s x : Operand)
    (hop : o.op = .call { callee := .builtin .append, args := #[s, x], argTypes := #[49, 49] }) (hs : a.eval s = .slice none 0 0)
    {g0 : Nat} {b : Bool} {A : Option Addr} {m c : Nat} (hx : a.eval x = .slice (some ⟨g0, 0, none⟩) 1 1) (h0 : W.cell? ⟨g0, 0, none⟩ = some (.bool b)) (h1 : W.cell? ⟨g0, 1, none⟩ = some (.slice A m c))
    (hK : ∀ cap w', Oz w' W.heap.size 1 cap [.bool b, .slice A m c] → Below W.heap.size W w' → wpList Tryz.prog ops Q rest (a.put o.dst (.slice (some ⟨W.heap.size, 0, none⟩) 1 cap)) w') : wpList Tryz.prog ops Q (o :: rest) a W :=
  wpList_plain hgd fun K hK2 => wpo_pushZ0 s x hop hs hx h0 h1 fun cap w' h2 h3 => hK2 _ _ (hK cap w' h2 h3)
theorem wp_pushZ {W : World} {ops : Array Oper} {rest : List Oper} {o : Oper} {a : Act} {Q : Exit → Act → World → Prop} (hgd : o.guard = none) (s x : Operand)
    (hop : o.op = .call { callee := .builtin .append, args := #[s, x], argTypes := #[49, 49] }) {g n cap : Nat} {xs : List Value} (hs : a.eval s = .slice (some ⟨g, 0, none⟩) n cap) (h : Oz W g n cap xs) (hn : n ≤ 1000)
    {g0 : Nat} {b : Bool} {A : Option Addr} {m c : Nat} (hx : a.eval x = .slice (some ⟨g0, 0, none⟩) 1 1) (h0 : W.cell? ⟨g0, 0, none⟩ = some (.bool b)) (h1 : W.cell? ⟨g0, 1, none⟩ = some (.slice A m c))
    (hK : ∀ g' cap' w', Oz w' g' (n + 1) cap' (xs ++ [.bool b, .slice A m c]) → W.grownBy w' (some g) → (g' = g ∨ g' = W.heap.size) → wpList Tryz.prog ops Q rest (a.put o.dst (.slice (some ⟨g', 0, none⟩) (n + 1) cap')) w') : wpList Tryz.prog ops Q (o :: rest) a W :=
  wpList_plain hgd fun K hK2 => wpo_pushZ s x hop hs h hn hx h0 h1 fun g' cap' w' h2 h3 h4 => hK2 _ _ (hK g' cap' w' h2 h3 h4)
end Go.Proofs.YthlpdljkclngdaaGreat
