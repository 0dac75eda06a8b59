/-
  append of an integer to a slice of integers that the call itself has made.
-/
import Derived.Test.YtbpamkpclofnbaaVnew
import Derived.Laws.AppendOwn
namespace Go.Proofs.Ytbpamkpclofnbaa
open Go.RowKit
set_option linter.unusedVariables false
set_option maxRecDepth 100000


/-- Block g is a slice's of n integers, with room for cap, and holds no limb. -/
def Oz (w : World) (g n cap : Nat) (xs : List Value) : Prop :=
  ∃ cur : Array Value, w.heap[g]? = some (.cells cur 32 (0, 0)) ∧ n ≤ cap ∧ cap ≤ maxLen ∧ cur.size = cap * 2 ∧ cur.toList.take (n * 2) = xs ∧ xs.length = n * 2 ∧ Kd cur.toList
section
variable {w w' : World} {g n cap : Nat} {xs : List Value}
theorem Oz.lt (h : Oz w g n cap xs) : g < w.heap.size := by
  obtain ⟨cur, h, _⟩ := h
  exact (Array.getElem?_eq_some_iff.1 h).1
theorem Oz.to (h : Oz w g n cap xs) (hb : w'.heap[g]? = w.heap[g]?) : Oz w' g n cap xs := by
  obtain ⟨cur, h, hc⟩ := h
  exact ⟨cur, hb.trans h, hc⟩
theorem Oz.keep (h : Oz w g n cap xs) (hb : Below w.heap.size w w') : Oz w' g n cap xs := h.to (hb.block g h.lt)
instance Oz.mv {v w : World} : Mv (Oz v g n cap xs) v w (Oz w g n cap xs) := ⟨fun h hb => Oz.keep h hb⟩
theorem Oz.alloc (h : Oz w g n cap xs) (o : Obj) : Oz (w.alloc o) g n cap xs := h.to (Below.heap_alloc w o g h.lt)
theorem Oz.drw (h : Oz w g n cap xs) : Oz w.drew g n cap xs := h
theorem Oz.far (h : Oz w g n cap xs) {z : Addr} (hp : g ≠ z.block) (u : Value) : Oz (w.setCell z u) g n cap xs := h.to (Below.heap_setCell w z u g hp)
theorem Oz.by_ {k : Nat} (h : Oz w g n cap xs) (hg : w.grownBy w' (some k)) (hne : g ≠ k) : Oz w' g n cap xs := h.to (hg.block g h.lt (fun e => by injection e with e; exact hne e))
theorem Oz.cell (h : Oz w g n cap xs) (i : Nat) (u : Value) (hu : w.cell? ⟨g, i, none⟩ = some u) : ∀ x, u ≠ .int .u64 x := by
  obtain ⟨cur, h, _, _, _, _, _, hk⟩ := h
  rw [cell_of_row w g i _ _ (0, 0) h] at hu
  exact hk u (by have := Array.mem_of_getElem? hu; simpa using this)
/-- An integer's limbs stay where they are: the slice's block holds none. -/
theorem Zn.by_ {A : Option Addr} {m c K : Nat} {X : Int} (z : Zn w A m c X K) (h : Oz w g n cap xs) (hg : w.grownBy w' (some g)) : Zn w' A m c X K := by
  refine ⟨⟨z.1.1, z.1.2.1, z.1.2.2.1, z.1.2.2.2.1, fun hn => ?_⟩, z.2⟩
  obtain ⟨d, off, e, hd, hc⟩ := z.1.at_ hn
  have hne : d ≠ g := fun e2 => by
    subst e2
    have h0 := hc 0 (by have := z.1.len; omega)
    exact h.cell _ _ h0 _ rfl
  refine ⟨d, off, e, Nat.lt_of_lt_of_le hd hg.size, fun k hk => ?_⟩
  rw [← hc k hk]
  exact World.cell?_of_block (hg.block d hd (fun e => by injection e with e; exact hne e))
end
theorem below_by {B : Nat} {w0 w w' : World} {g : Nat} (hb : Below B w0 w) (hs : B ≤ w.heap.size) (hg : w.grownBy w' (some g)) (hB : B ≤ g) : Below B w0 w' :=
  ⟨hg.os.trans hb.os, hg.tape.trans hb.tape, hg.output.trans hb.output, Nat.le_trans hb.size hg.size, fun k hk => (hg.block k (Nat.lt_of_lt_of_le hk hs) (fun e => by injection e with e; omega)).trans (hb.block k hk)⟩
theorem kd_app {a b : List Value} (ha : Kd a) (hb : Kd b) : Kd (a ++ b) := fun u hu x => by
  rcases List.mem_append.1 hu with h | h
  · exact ha u h x
  · exact hb u h x
theorem kd_two (b : Bool) (A : Option Addr) (m c : Nat) : Kd [.bool b, .slice A m c] := fun u hu x => by
  simp at hu
  rcases hu with rfl | rfl <;> simp
theorem two_cells {w : World} {g0 : Nat} {b : Bool} {A : Option Addr} {m c : Nat} (h0 : w.cell? ⟨g0, 0, none⟩ = some (.bool b)) (h1 : w.cell? ⟨g0, 1, none⟩ = some (.slice A m c)) :
    ∀ j u, [Value.bool b, Value.slice A m c][j]? = some u → w.cell? ((⟨g0, 0, none⟩ : Addr).add j) = some u := by
  intro j u hj
  match j, hj with
  | 0, hj => simp at hj; subst hj; simpa [Addr.add] using h0
  | 1, hj => simp at hj; subst hj; simpa [Addr.add] using h1
theorem run_pushZ0 (w : World) (ty : TypeId) {g0 : Nat} {b : Bool} {A : Option Addr} {m c : Nat} (h0 : w.cell? ⟨g0, 0, none⟩ = some (.bool b)) (h1 : w.cell? ⟨g0, 1, none⟩ = some (.slice A m c)) :
    ∃ cap w', (Builtin.append_ #[66, 66] ty #[.slice none 0 0, .slice (some ⟨g0, 0, none⟩) 1 1]).run Try.prog w = .ok (.slice (some ⟨w.heap.size, 0, none⟩) 1 cap) w' ∧ Oz w' w.heap.size 1 cap [.bool b, .slice A m c] ∧ Below w.heap.size w w' := by
  obtain ⟨i0, hi, hz0, hz1, hz2⟩ := info_parts Try.infoI
  have hr := run_append_nil (P := Try.prog) w 66 ty 32 i0 _ Try.underlying66 hi hz0 ⟨g0, 0, none⟩ 1 1 [.bool b, .slice A m c] (by rw [hz1]; rfl) (two_cells h0 h1) (by omega) (by omega) (by rw [hz2]; omega)
  have hge := grownCap_ge w 1 0 32
  refine ⟨_, _, hr, ⟨_, heap_alloc_new w.drew _, hge, grownCap_le_maxLen w 1 0 _ (by unfold maxLen; omega), ?_, ?_, rfl, ?_⟩, (below_drew (Below.refl w.heap.size w)).alloc (Nat.le_refl _) _⟩
  · simp only [Array.size_append, List.size_toArray, size_zeroCells]
    simp [Value.cells]
    omega
  · simp
  · rw [Array.toList_append]
    exact kd_app (kd_two b A m c) (kd_zero _)
theorem run_pushZ (w : World) (ty : TypeId) {g n cap : Nat} {xs : List Value} (h : Oz w g n cap xs) (hn : n ≤ 1000) {g0 : Nat} {b : Bool} {A : Option Addr} {m c : Nat} (h0 : w.cell? ⟨g0, 0, none⟩ = some (.bool b)) (h1 : w.cell? ⟨g0, 1, none⟩ = some (.slice A m c)) :
    ∃ g' cap' w', (Builtin.append_ #[66, 66] ty #[.slice (some ⟨g, 0, none⟩) n cap, .slice (some ⟨g0, 0, none⟩) 1 1]).run Try.prog w = .ok (.slice (some ⟨g', 0, none⟩) (n + 1) cap') w' ∧ Oz w' g' (n + 1) cap' (xs ++ [.bool b, .slice A m c]) ∧ w.grownBy w' (some g) ∧ (g' = g ∨ g' = w.heap.size) := by
  obtain ⟨i0, hi, hz0, hz1, hz2⟩ := info_parts Try.infoI
  obtain ⟨cur, hh, hnc, hcm, hcs, htk, hxl, hk⟩ := h
  by_cases hroom : n + 1 ≤ cap
  · have hr := run_append_room (P := Try.prog) w 66 ty 32 i0 Try.underlying66 hi g n cap cur hh ⟨g0, 0, none⟩ 1 1 [.bool b, .slice A m c] (by rw [hz1]; rfl) (two_cells h0 h1) (fun u hu => by simp at hu; rcases hu with rfl | rfl <;> rfl) hroom (by rw [hz1, hcs]; simp; omega)
    rw [hz1] at hr
    refine ⟨g, cap, _, hr, ⟨_, setRow_heap w g cur _ _ _ hh, hroom, hcm, ?_, ?_, by simp [hxl]; omega, ?_⟩, ⟨rfl, rfl, rfl, by simp [World.setRow], fun k _ hk => setRow_other w g k _ (fun e => hk (by rw [e]))⟩, .inl rfl⟩
    · simp [hcs]
      omega
    · rw [htk, show (n + 1) * 2 = (xs ++ [Value.bool b, Value.slice A m c]).length by simp [hxl]; omega]
      exact List.take_left
    · refine kd_app (kd_app ?_ (kd_two b A m c)) ?_
      · exact fun u hu x => hk u (List.mem_of_mem_take hu) x
      · exact fun u hu x => hk u (List.mem_of_mem_drop hu) x
  · have hxk : Kd xs := fun u hu x => hk u (List.mem_of_mem_take (by rw [htk]; exact hu)) x
    have hr := run_append_grow (P := Try.prog) w 66 ty 32 i0 _ Try.underlying66 hi hz0 ⟨g, 0, none⟩ n cap xs (by rw [hz1]; exact hxl) (fun j u hj => by
        have hjl : j < xs.length := (List.getElem?_eq_some_iff.1 hj).1
        have hcj : w.cell? ⟨g, j, none⟩ = some u := by
          rw [cell_of_row w g j _ _ (0, 0) hh, ← hj, ← htk, List.getElem?_take_of_lt (by omega)]
          simp
        unfold Addr.add
        by_cases hj0 : j = 0
        · subst hj0; simpa using hcj
        · simpa [hj0] using hcj) ⟨g0, 0, none⟩ 1 1 [.bool b, .slice A m c] (by rw [hz1]; rfl) (two_cells h0 h1) (by omega) (by omega) (growslice_fits (by omega) (by rw [hz2]; omega))
    have hge := grownCap_ge w (n + 1) cap 32
    refine ⟨_, _, _, hr, ⟨_, heap_alloc_new w.drew _, hge, grownCap_le_maxLen w (n + 1) cap _ (by unfold maxLen; omega), ?_, ?_, by simp [hxl]; omega, ?_⟩, ⟨rfl, rfl, rfl, by simp, fun k hk _ => heap_alloc_old w.drew _ hk⟩, .inr rfl⟩
    · simp only [Array.size_append, List.size_toArray, size_zeroCells]
      simp [Value.cells, hxl]
      omega
    · simp only [Array.toList_append, List.append_assoc]
      rw [← List.append_assoc, show (n + 1) * 2 = (xs ++ [Value.bool b, Value.slice A m c]).length by simp [hxl]; omega]
      exact List.take_left
    · simp only [Array.toList_append]
      exact kd_app (kd_app hxk (kd_two b A m c)) (kd_zero _)
/-- What append does, at the operation: onto nothing, onto some. -/
theorem wpo_pushZ0 {W : World} {o : Oper} {a : Act} {K : Act → World → Prop} {Q : Exit → Act → World → Prop} (s x : Operand)
    (hop : o.op = .call { callee := .builtin .append, args := #[s, x], argTypes := #[66, 66] }) (hs : a.eval s = .slice none 0 0)
    {g0 : Nat} {b : Bool} {A : Option Addr} {m c : Nat} (hx : a.eval x = .slice (some ⟨g0, 0, none⟩) 1 1) (h0 : W.cell? ⟨g0, 0, none⟩ = some (.bool b)) (h1 : W.cell? ⟨g0, 1, none⟩ = some (.slice A m c))
    (hK : ∀ cap w', Oz w' W.heap.size 1 cap [.bool b, .slice A m c] → Below W.heap.size W w' → K (a.put o.dst (.slice (some ⟨W.heap.size, 0, none⟩) 1 cap)) w') : o.wp Try.prog a W K Q := by
  obtain ⟨cap, w', hr, h2, h3⟩ := run_pushZ0 W o.type h0 h1
  unfold Oper.wp execOp
  simp only [hop, resolve, invoke, builtin, Sem.run_bind, Sem.run_pure, Result.andThen_ok, List.map_toArray, List.map_cons, List.map_nil, hs, hx, hr]
  exact hK _ _ h2 h3
theorem wpo_pushZ {W : World} {o : Oper} {a : Act} {K : Act → World → Prop} {Q : Exit → Act → World → Prop} (s x : Operand)
    (hop : o.op = .call { callee := .builtin .append, args := #[s, x], argTypes := #[66, 66] }) {g n cap : Nat} {xs : List Value} (hs : a.eval s = .slice (some ⟨g, 0, none⟩) n cap) (h : Oz W g n cap xs) (hn : n ≤ 1000)
    {g0 : Nat} {b : Bool} {A : Option Addr} {m c : Nat} (hx : a.eval x = .slice (some ⟨g0, 0, none⟩) 1 1) (h0 : W.cell? ⟨g0, 0, none⟩ = some (.bool b)) (h1 : W.cell? ⟨g0, 1, none⟩ = some (.slice A m c))
    (hK : ∀ g' cap' w', Oz w' g' (n + 1) cap' (xs ++ [.bool b, .slice A m c]) → W.grownBy w' (some g) → (g' = g ∨ g' = W.heap.size) → K (a.put o.dst (.slice (some ⟨g', 0, none⟩) (n + 1) cap')) w') : o.wp Try.prog a W K Q := by
  obtain ⟨g', cap', w', hr, h2, h3, h4⟩ := run_pushZ W o.type h hn h0 h1
  unfold Oper.wp execOp
  simp only [hop, resolve, invoke, builtin, Sem.run_bind, Sem.run_pure, Result.andThen_ok, List.map_toArray, List.map_cons, List.map_nil, hs, hx, hr]
  exact hK _ _ _ h2 h3 h4
theorem step_pushZ0 {W : World} {ops : Array Oper} {o : Oper} {a : Act} {K : Act → World → Prop} {Q : Exit → Act → World → Prop} {E : Prop} (hgd : o.guard = none) (s x : Operand)
    (hop : o.op = .call { callee := .builtin .append, args := #[s, x], argTypes := #[66, 66] }) (hs : a.eval s = .slice none 0 0)
    {g0 : Nat} {b : Bool} {A : Option Addr} {m c : Nat} (hx : a.eval x = .slice (some ⟨g0, 0, none⟩) 1 1) (h0 : W.cell? ⟨g0, 0, none⟩ = some (.bool b)) (h1 : W.cell? ⟨g0, 1, none⟩ = some (.slice A m c))
    (hK : ∀ cap w', Oz w' W.heap.size 1 cap [.bool b, .slice A m c] → Below W.heap.size W w' → K (a.put o.dst (.slice (some ⟨W.heap.size, 0, none⟩) 1 cap)) w') :
    if Region.wanted o (yielded ops a.tmps) = true then Oper.wp Try.prog o a W K Q else E := by
  rw [if_pos (by simp [Region.wanted, hgd])]
  exact wpo_pushZ0 s x hop hs hx h0 h1 hK
theorem step_pushZ {W : World} {ops : Array Oper} {o : Oper} {a : Act} {K : Act → World → Prop} {Q : Exit → Act → World → Prop} {E : Prop} (hgd : o.guard = none) (s x : Operand)
    (hop : o.op = .call { callee := .builtin .append, args := #[s, x], argTypes := #[66, 66] }) {g n cap : Nat} {xs : List Value} (hs : a.eval s = .slice (some ⟨g, 0, none⟩) n cap) (h : Oz W g n cap xs) (hn : n ≤ 1000)
    {g0 : Nat} {b : Bool} {A : Option Addr} {m c : Nat} (hx : a.eval x = .slice (some ⟨g0, 0, none⟩) 1 1) (h0 : W.cell? ⟨g0, 0, none⟩ = some (.bool b)) (h1 : W.cell? ⟨g0, 1, none⟩ = some (.slice A m c))
    (hK : ∀ g' cap' w', Oz w' g' (n + 1) cap' (xs ++ [.bool b, .slice A m c]) → W.grownBy w' (some g) → (g' = g ∨ g' = W.heap.size) → K (a.put o.dst (.slice (some ⟨g', 0, none⟩) (n + 1) cap')) w') :
    if Region.wanted o (yielded ops a.tmps) = true then Oper.wp Try.prog o a W K Q else E := by
  rw [if_pos (by simp [Region.wanted, hgd])]
  exact wpo_pushZ s x hop hs h hn hx h0 h1 hK
theorem wp_pushZ0 {W : World} {ops : Array Oper} {rest : List Oper} {o : Oper} {a : Act} {Q : Exit → Act → World → Prop} (hgd : o.guard = none) (s x : Operand)
    (hop : o.op = .call { callee := .builtin .append, args := #[s, x], argTypes := #[66, 66] }) (hs : a.eval s = .slice none 0 0)
    {g0 : Nat} {b : Bool} {A : Option Addr} {m c : Nat} (hx : a.eval x = .slice (some ⟨g0, 0, none⟩) 1 1) (h0 : W.cell? ⟨g0, 0, none⟩ = some (.bool b)) (h1 : W.cell? ⟨g0, 1, none⟩ = some (.slice A m c))
    (hK : ∀ cap w', Oz w' W.heap.size 1 cap [.bool b, .slice A m c] → Below W.heap.size W w' → wpList Try.prog ops Q rest (a.put o.dst (.slice (some ⟨W.heap.size, 0, none⟩) 1 cap)) w') : wpList Try.prog ops Q (o :: rest) a W :=
  wpList_plain hgd fun K hK2 => wpo_pushZ0 s x hop hs hx h0 h1 fun cap w' h2 h3 => hK2 _ _ (hK cap w' h2 h3)
theorem wp_pushZ {W : World} {ops : Array Oper} {rest : List Oper} {o : Oper} {a : Act} {Q : Exit → Act → World → Prop} (hgd : o.guard = none) (s x : Operand)
    (hop : o.op = .call { callee := .builtin .append, args := #[s, x], argTypes := #[66, 66] }) {g n cap : Nat} {xs : List Value} (hs : a.eval s = .slice (some ⟨g, 0, none⟩) n cap) (h : Oz W g n cap xs) (hn : n ≤ 1000)
    {g0 : Nat} {b : Bool} {A : Option Addr} {m c : Nat} (hx : a.eval x = .slice (some ⟨g0, 0, none⟩) 1 1) (h0 : W.cell? ⟨g0, 0, none⟩ = some (.bool b)) (h1 : W.cell? ⟨g0, 1, none⟩ = some (.slice A m c))
    (hK : ∀ g' cap' w', Oz w' g' (n + 1) cap' (xs ++ [.bool b, .slice A m c]) → W.grownBy w' (some g) → (g' = g ∨ g' = W.heap.size) → wpList Try.prog ops Q rest (a.put o.dst (.slice (some ⟨g', 0, none⟩) (n + 1) cap')) w') : wpList Try.prog ops Q (o :: rest) a W :=
  wpList_plain hgd fun K hK2 => wpo_pushZ s x hop hs h hn hx h0 h1 fun g' cap' w' h2 h3 h4 => hK2 _ _ (hK g' cap' w' h2 h3 h4)


theorem Rd.by_ {w w' : World} {g n cap m c : Nat} {xs : List Value} {A : Option Addr} {l : List Int} (z : Rd w w.heap.size A m c l) (h : Oz w g n cap xs) (hg : w.grownBy w' (some g)) : Rd w' w'.heap.size A m c l := by
  refine ⟨z.1, z.2.1, z.2.2.1, z.2.2.2.1, fun hn => ?_⟩
  obtain ⟨d, off, e, hd, hc⟩ := z.at_ hn
  have hne : d ≠ g := fun e2 => by
    subst e2
    have h0 := hc 0 (by have := z.len; omega)
    exact h.cell _ _ h0 _ rfl
  refine ⟨d, off, e, Nat.lt_of_lt_of_le hd hg.size, fun k hk => ?_⟩
  rw [← hc k hk]
  exact World.cell?_of_block (hg.block d hd (fun e => by injection e with e; exact hne e))
/-- What an append onto s leaves: every other block is as it was, and so is every integer. -/
structure Gr (s : Value) (W w' : World) : Prop where
  grown : W.grownBy w' s.ownBlock
  rd : ∀ A n c l, Rd W W.heap.size A n c l → Rd w' w'.heap.size A n c l
section
variable {w w' : World} {s : Value} {g : Nat}
theorem Zn.gr {A : Option Addr} {n c k : Nat} {X : Int} (h : Zn w A n c X k) (hg : Gr s w w') : Zn w' A n c X k := ⟨hg.rd _ _ _ _ h.1, h.2⟩
theorem Zr.gr {b : Bool} {A : Option Addr} {n c k : Nat} {X : Int} (h : Zr w b A n c X k) (hg : Gr s w w') : Zr w' b A n c X k := by
  obtain ⟨l, h1, h2, h3⟩ := h
  exact ⟨l, hg.rd _ _ _ _ h1, h2, h3⟩
theorem Gr.at_ (hg : Gr s w w') (hl : g < w.heap.size) (hne : s.ownBlock ≠ some g) : w'.heap[g]? = w.heap[g]? := hg.grown.block g hl (fun e => hne e.symm)
theorem Bx.gr {b : Bool} {A : Option Addr} {n c : Nat} (h : Bx w g b A n c) (hg : Gr s w w') (hne : s.ownBlock ≠ some g) : Bx w' g b A n c := (hg.at_ h.lt hne).trans h
theorem Gr.alloc {o : Obj} (hg : Gr s (w.alloc o) w') : Gr s w w' := by
  have hs : w.heap.size < (w.alloc o).heap.size := by simp
  exact ⟨⟨hg.grown.os, hg.grown.tape, hg.grown.output, Nat.le_trans (Nat.le_of_lt hs) hg.grown.size, fun k hk hr => (hg.grown.block k (by omega) hr).trans (heap_alloc_old w o hk)⟩, fun A n c l h => hg.rd _ _ _ _ (h.go (below_alloc w o))⟩
end
/-- These cells are these integers, each in normal form. -/
def Cz (w : World) (J : Nat) : List Value → List Int → Prop
  | xs, [] => xs = []
  | xs, X :: l => ∃ A n c ys, xs = Value.bool (ngB X) :: .slice A n c :: ys ∧ Zn w A n c X J ∧ Cz w J ys l
theorem Cz.snoc {w : World} {J : Nat} {A : Option Addr} {n c : Nat} {X : Int} (z : Zn w A n c X J) : ∀ {l : List Int} {xs : List Value}, Cz w J xs l → Cz w J (xs ++ [.bool (ngB X), .slice A n c]) (l ++ [X])
  | [], xs, h => by
    have e : xs = [] := h
    subst e
    exact ⟨A, n, c, [], rfl, z, rfl⟩
  | Y :: l, xs, h => by
    obtain ⟨A1, n1, c1, ys, rfl, hz, hc⟩ := h
    exact ⟨A1, n1, c1, ys ++ [.bool (ngB X), .slice A n c], rfl, hz, Cz.snoc z hc⟩
theorem Cz.to {w w' : World} {J : Nat} (hz : ∀ A n c X, Zn w A n c X J → Zn w' A n c X J) : ∀ {l : List Int} {xs : List Value}, Cz w J xs l → Cz w' J xs l
  | [], xs, h => h
  | Y :: l, xs, h => by
    obtain ⟨A1, n1, c1, ys, rfl, hz1, hc⟩ := h
    exact ⟨A1, n1, c1, ys, rfl, hz _ _ _ _ hz1, Cz.to hz hc⟩
/-- The value s is a slice of the integers l: nil for none, else in a block of its own from B on. -/
def Gz (w : World) (B J : Nat) (s : Value) (l : List Int) : Prop :=
  (s = .slice none 0 0 ∧ l = []) ∨ ∃ g cap xs, s = .slice (some ⟨g, 0, none⟩) l.length cap ∧ B ≤ g ∧ Oz w g l.length cap xs ∧ Cz w J xs l
/-- Two slices that do not lie in one block. -/
def Ap (s t : Value) : Prop := ∀ g, s.ownBlock = some g → t.ownBlock ≠ some g
/-- s' is where s was, or in a block that is new in w. -/
def Nw (w : World) (s s' : Value) : Prop := s'.ownBlock = s.ownBlock ∨ ∃ k, w.heap.size ≤ k ∧ s'.ownBlock = some k
section
variable {w w' : World} {B J : Nat} {s s' t : Value} {l : List Int}
theorem Gz.nil (w : World) (B J : Nat) : Gz w B J (.slice none 0 0) [] := .inl ⟨rfl, rfl⟩
theorem Gz.keep (h : Gz w B J s l) (hb : Below w.heap.size w w') : Gz w' B J s l := by
  rcases h with h | ⟨g, cap, xs, h1, h2, h3, h4⟩
  · exact .inl h
  · exact .inr ⟨g, cap, xs, h1, h2, h3.keep hb, h4.to fun _ _ _ _ z => z.keep hb⟩
instance Gz.mv {v w : World} : Mv (Gz v B J s l) v w (Gz w B J s l) := ⟨fun h hb => Gz.keep h hb⟩
theorem Gz.drw (h : Gz w B J s l) : Gz w.drew B J s l := h.keep (below_drew (Below.refl _ _))
theorem Gz.lt (h : Gz w B J s l) {k : Nat} (hk : s.ownBlock = some k) : B ≤ k ∧ k < w.heap.size := by
  rcases h with ⟨rfl, _⟩ | ⟨g, cap, xs, rfl, h2, h3, h4⟩
  · simp [Value.ownBlock] at hk
  · simp [Value.ownBlock] at hk
    subst hk
    exact ⟨h2, h3.lt⟩
theorem Gz.ne (h : Gz w B J s l) {k : Nat} (hk : k < B ∨ w.heap.size ≤ k) : s.ownBlock ≠ some k := fun e => by
  have := h.lt e
  omega
theorem Gz.gr (h : Gz w B J t l) (hg : Gr s w w') (hap : Ap s t) : Gz w' B J t l := by
  rcases h with h | ⟨g, cap, xs, rfl, h2, h3, h4⟩
  · exact .inl h
  · exact .inr ⟨g, cap, xs, rfl, h2, h3.to (hg.at_ h3.lt (fun e => hap g e rfl)), h4.to fun _ _ _ _ z => z.gr hg⟩
theorem Ap.nil (t : Value) : Ap (.slice none 0 0) t := fun g h => by simp [Value.ownBlock] at h
theorem Ap.symm (h : Ap s t) : Ap t s := fun g h1 h2 => h g h2 h1
theorem Ap.nw (h : Ap s t) (ht : Gz w B J t l) (hn : Nw w s s') : Ap s' t := fun g h1 h2 => by
  rcases hn with e | ⟨k, hk, e⟩
  · exact h g (e ▸ h1) h2
  · rw [e] at h1
    injection h1 with h1
    have := ht.lt h2
    omega
theorem Gr.below {A : Nat} {w0 : World} (hb : Below A w0 w) (hs : A ≤ w.heap.size) (h : Gz w B J s l) (hg : Gr s w w') (hB : A ≤ B) : Below A w0 w' :=
  ⟨hg.grown.os.trans hb.os, hg.grown.tape.trans hb.tape, hg.grown.output.trans hb.output, Nat.le_trans hb.size hg.grown.size, fun k hk => (hg.at_ (Nat.lt_of_lt_of_le hk hs) (h.ne (.inl (by omega)))).trans (hb.block k hk)⟩
end
/-- What an append of the integer X onto s has made. -/
def Pu (V : World) (B J : Nat) (s : Value) (l : List Int) (X : Int) (s' : Value) (w' : World) : Prop := Gz w' B J s' (l ++ [X]) ∧ Gr s V w' ∧ Nw V s s'
theorem Pu.over {V V2 w' : World} {B J : Nat} {s s' : Value} {l : List Int} {X : Int} (h : Pu V2 B J s l X s' w') (hb : Below V.heap.size V V2) : Pu V B J s l X s' w' := by
  refine ⟨h.1, ⟨⟨h.2.1.grown.os.trans hb.os, h.2.1.grown.tape.trans hb.tape, h.2.1.grown.output.trans hb.output, Nat.le_trans hb.size h.2.1.grown.size, fun k hk hr => (h.2.1.grown.block k (Nat.lt_of_lt_of_le hk hb.size) hr).trans (hb.block k hk)⟩, fun _ _ _ _ h' => h.2.1.rd _ _ _ _ (h'.go hb)⟩, ?_⟩
  rcases h.2.2 with e | ⟨k, hk, e⟩
  · exact .inl e
  · exact .inr ⟨k, Nat.le_trans hb.size hk, e⟩
theorem run_pushG (V : World) (ty : TypeId) {B J m c : Nat} {s : Value} {l : List Int} {A : Option Addr} {X : Int} (h : Gz V B J s l) (hn : l.length ≤ 1000) (hB : B ≤ V.heap.size) (z : Zn V A m c X J) :
    ∃ s' w', (Builtin.append_ #[66, 66] ty #[s, .slice (some ⟨V.heap.size, 0, none⟩) 1 1]).run Try.prog (V.alloc (.cells #[.bool (ngB X), .slice A m c] 32)) = .ok s' w' ∧ Pu V B J s l X s' w' := by
  have hx := Bx.new V (ngB X) A m c
  have hsz : (V.alloc (.cells #[.bool (ngB X), .slice A m c] 32)).heap.size = V.heap.size + 1 := by simp
  rcases h with ⟨rfl, rfl⟩ | ⟨g, cap, xs, rfl, hg, ho, hc⟩
  · obtain ⟨cap, w', hr, h2, h3⟩ := run_pushZ0 (V.alloc (.cells #[.bool (ngB X), .slice A m c] 32)) ty hx.c0 hx.c1
    have hb := bthen (below_alloc V _) h3
    rw [hsz] at h2 hr
    exact ⟨_, _, hr, .inr ⟨_, cap, _, rfl, by omega, h2, ⟨A, m, c, [], rfl, z.keep hb, rfl⟩⟩, ⟨⟨hb.os, hb.tape, hb.output, hb.size, fun k hk _ => hb.block k hk⟩, fun _ _ _ _ h => h.go hb⟩, .inr ⟨V.heap.size + 1, by omega, rfl⟩⟩
  · obtain ⟨g', cap', w', hr, h2, h3, h4⟩ := run_pushZ (V.alloc (.cells #[.bool (ngB X), .slice A m c] 32)) ty (ho.alloc _) hn hx.c0 hx.c1
    have hG : Gr (.slice (some ⟨g, 0, none⟩) l.length cap) (V.alloc (.cells #[.bool (ngB X), .slice A m c] 32)) w' := ⟨h3, fun _ _ _ _ h => h.by_ (ho.alloc _) h3⟩
    have hG2 := hG.alloc
    have e : (l ++ [X]).length = l.length + 1 := by simp
    refine ⟨_, _, hr, .inr ⟨g', cap', _, by rw [e], ?_, by rw [e]; exact h2, (hc.to fun _ _ _ _ z => z.gr hG2).snoc (z.gr hG2)⟩, hG2, ?_⟩
    · rcases h4 with rfl | rfl
      · exact hg
      · omega
    · rcases h4 with rfl | rfl
      · exact .inl rfl
      · exact .inr ⟨_, Nat.le_trans (Nat.le_succ _) (Nat.le_of_eq hsz.symm), rfl⟩
theorem wpo_pushG {V : World} {o : Oper} {a : Act} {K : Act → World → Prop} {Q : Exit → Act → World → Prop} (s x : Operand)
    (hop : o.op = .call { callee := .builtin .append, args := #[s, x], argTypes := #[66, 66] }) {v : Value} (hs : a.eval s = v)
    {B J m c : Nat} {l : List Int} {A : Option Addr} {X : Int} (h : Gz V B J v l) (hn : l.length ≤ 1000) (hB : B ≤ V.heap.size) (z : Zn V A m c X J) (hx : a.eval x = .slice (some ⟨V.heap.size, 0, none⟩) 1 1)
    (hK : ∀ s' w', Pu V B J v l X s' w' → K (a.put o.dst s') w') : o.wp Try.prog a (V.alloc (.cells #[.bool (ngB X), .slice A m c] 32)) K Q := by
  obtain ⟨s', w', hr, h2⟩ := run_pushG V o.type h hn hB z
  unfold Oper.wp execOp
  simp only [hop, resolve, invoke, builtin, Sem.run_bind, Sem.run_pure, Result.andThen_ok, List.map_toArray, List.map_cons, List.map_nil, hs, hx, hr]
  exact hK _ _ h2
theorem step_pushG {V : World} {ops : Array Oper} {o : Oper} {a : Act} {K : Act → World → Prop} {Q : Exit → Act → World → Prop} {E : Prop} (hgd : o.guard = none) (s x : Operand)
    (hop : o.op = .call { callee := .builtin .append, args := #[s, x], argTypes := #[66, 66] }) {v : Value} (hs : a.eval s = v)
    {B J m c : Nat} {l : List Int} {A : Option Addr} {X : Int} (h : Gz V B J v l) (hn : l.length ≤ 1000) (hB : B ≤ V.heap.size) (z : Zn V A m c X J) (hx : a.eval x = .slice (some ⟨V.heap.size, 0, none⟩) 1 1)
    (hK : ∀ s' w', Pu V B J v l X s' w' → K (a.put o.dst s') w') :
    if Region.wanted o (yielded ops a.tmps) = true then Oper.wp Try.prog o a (V.alloc (.cells #[.bool (ngB X), .slice A m c] 32)) K Q else E := by
  rw [if_pos (by simp [Region.wanted, hgd])]
  exact wpo_pushG s x hop hs h hn hB z hx hK
theorem wp_pushG {V : World} {ops : Array Oper} {rest : List Oper} {o : Oper} {a : Act} {Q : Exit → Act → World → Prop} (hgd : o.guard = none) (s x : Operand)
    (hop : o.op = .call { callee := .builtin .append, args := #[s, x], argTypes := #[66, 66] }) {v : Value} (hs : a.eval s = v)
    {B J m c : Nat} {l : List Int} {A : Option Addr} {X : Int} (h : Gz V B J v l) (hn : l.length ≤ 1000) (hB : B ≤ V.heap.size) (z : Zn V A m c X J) (hx : a.eval x = .slice (some ⟨V.heap.size, 0, none⟩) 1 1)
    (hK : ∀ s' w', Pu V B J v l X s' w' → wpList Try.prog ops Q rest (a.put o.dst s') w') : wpList Try.prog ops Q (o :: rest) a (V.alloc (.cells #[.bool (ngB X), .slice A m c] 32)) :=
  wpList_plain hgd fun K hK2 => wpo_pushG s x hop hs h hn hB z hx fun s' w' h2 => hK2 _ _ (hK s' w' h2)
end Go.Proofs.Ytbpamkpclofnbaa
