/-
  a slice of integers that the call itself gathers: nothing yet, or a block of its own.
-/
import Derived.Test.YthlpdljkclngdaaGreatGpush
namespace Go.Proofs.YthlpdljkclngdaaGreat
open Go.RowKit
set_option linter.unusedVariables false
set_option maxRecDepth 100000

theorem Rd.by_ {w w' : World} {g n cap m c : Nat} {xs : List Value} {A : Option Addr} {l : List Int} (z : Rd w w.heap.size A m c l) (h : Oz w g n cap xs) (hg : w.grownBy w' (some g)) : Rd w' w'.heap.size A m c l := by
  refine ⟨z.1, z.2.1, z.2.2.1, z.2.2.2.1, fun hn => ?_⟩
  obtain ⟨d, off, e, hd, hc⟩ := z.at_ hn
  have hne : d ≠ g := fun e2 => by
    subst e2
    have h0 := hc 0 (by have := z.len; omega)
    exact h.cell _ _ h0 _ rfl
  refine ⟨d, off, e, Nat.lt_of_lt_of_le hd hg.size, fun k hk => ?_⟩
  rw [← hc k hk]
  exact World.cell?_of_block (hg.block d hd (fun e => by injection e with e; exact hne e))
/-- What an append onto s leaves: every other block is as it was, and so is every integer. -/
structure Gr (s : Value) (W w' : World) : Prop where
  grown : W.grownBy w' s.ownBlock
  rd : ∀ A n c l, Rd W W.heap.size A n c l → Rd w' w'.heap.size A n c l
section
variable {w w' : World} {s : Value} {g : Nat}
theorem Zn.gr {A : Option Addr} {n c k : Nat} {X : Int} (h : Zn w A n c X k) (hg : Gr s w w') : Zn w' A n c X k := ⟨hg.rd _ _ _ _ h.1, h.2⟩
theorem Zr.gr {b : Bool} {A : Option Addr} {n c k : Nat} {X : Int} (h : Zr w b A n c X k) (hg : Gr s w w') : Zr w' b A n c X k := by
  obtain ⟨l, h1, h2, h3⟩ := h
  exact ⟨l, hg.rd _ _ _ _ h1, h2, h3⟩
theorem Gr.at_ (hg : Gr s w w') (hl : g < w.heap.size) (hne : s.ownBlock ≠ some g) : w'.heap[g]? = w.heap[g]? := hg.grown.block g hl (fun e => hne e.symm)
theorem Bx.gr {b : Bool} {A : Option Addr} {n c : Nat} (h : Bx w g b A n c) (hg : Gr s w w') (hne : s.ownBlock ≠ some g) : Bx w' g b A n c := (hg.at_ h.lt hne).trans h
theorem Gr.alloc {o : Obj} (hg : Gr s (w.alloc o) w') : Gr s w w' := by
  have hs : w.heap.size < (w.alloc o).heap.size := by simp
  exact ⟨⟨hg.grown.os, hg.grown.tape, hg.grown.output, Nat.le_trans (Nat.le_of_lt hs) hg.grown.size, fun k hk hr => (hg.grown.block k (by omega) hr).trans (heap_alloc_old w o hk)⟩, fun A n c l h => hg.rd _ _ _ _ (h.go (below_alloc w o))⟩
end
/-- These cells are these integers, each in normal form. -/
def Cz (w : World) (J : Nat) : List Value → List Int → Prop
  | xs, [] => xs = []
  | xs, X :: l => ∃ A n c ys, xs = Value.bool (ngB X) :: .slice A n c :: ys ∧ Zn w A n c X J ∧ Cz w J ys l
theorem Cz.snoc {w : World} {J : Nat} {A : Option Addr} {n c : Nat} {X : Int} (z : Zn w A n c X J) : ∀ {l : List Int} {xs : List Value}, Cz w J xs l → Cz w J (xs ++ [.bool (ngB X), .slice A n c]) (l ++ [X])
  | [], xs, h => by
    have e : xs = [] := h
    subst e
    exact ⟨A, n, c, [], rfl, z, rfl⟩
  | Y :: l, xs, h => by
    obtain ⟨A1, n1, c1, ys, rfl, hz, hc⟩ := h
    exact ⟨A1, n1, c1, ys ++ [.bool (ngB X), .slice A n c], rfl, hz, Cz.snoc z hc⟩
theorem Cz.to {w w' : World} {J : Nat} (hz : ∀ A n c X, Zn w A n c X J → Zn w' A n c X J) : ∀ {l : List Int} {xs : List Value}, Cz w J xs l → Cz w' J xs l
  | [], xs, h => h
  | Y :: l, xs, h => by
    obtain ⟨A1, n1, c1, ys, rfl, hz1, hc⟩ := h
    exact ⟨A1, n1, c1, ys, rfl, hz _ _ _ _ hz1, Cz.to hz hc⟩
/-- The value s is a slice of the integers l: nil for none, else in a block of its own from B on. -/
def Gz (w : World) (B J : Nat) (s : Value) (l : List Int) : Prop :=
  (s = .slice none 0 0 ∧ l = []) ∨ ∃ g cap xs, s = .slice (some ⟨g, 0, none⟩) l.length cap ∧ B ≤ g ∧ Oz w g l.length cap xs ∧ Cz w J xs l
/-- Two slices that do not lie in one block. -/
def Ap (s t : Value) : Prop := ∀ g, s.ownBlock = some g → t.ownBlock ≠ some g
/-- s' is where s was, or in a block that is new in w. -/
def Nw (w : World) (s s' : Value) : Prop := s'.ownBlock = s.ownBlock ∨ ∃ k, w.heap.size ≤ k ∧ s'.ownBlock = some k
section
variable {w w' : World} {B J : Nat} {s s' t : Value} {l : List Int}
theorem Gz.nil (w : World) (B J : Nat) : Gz w B J (.slice none 0 0) [] := .inl ⟨rfl, rfl⟩
theorem Gz.keep (h : Gz w B J s l) (hb : Below w.heap.size w w') : Gz w' B J s l := by
  rcases h with h | ⟨g, cap, xs, h1, h2, h3, h4⟩
  · exact .inl h
  · exact .inr ⟨g, cap, xs, h1, h2, h3.keep hb, h4.to fun _ _ _ _ z => z.keep hb⟩
theorem Gz.drw (h : Gz w B J s l) : Gz w.drew B J s l := h.keep (below_drew (Below.refl _ _))
theorem Gz.lt (h : Gz w B J s l) {k : Nat} (hk : s.ownBlock = some k) : B ≤ k ∧ k < w.heap.size := by
  rcases h with ⟨rfl, _⟩ | ⟨g, cap, xs, rfl, h2, h3, h4⟩
  · simp [Value.ownBlock] at hk
  · simp [Value.ownBlock] at hk
    subst hk
    exact ⟨h2, h3.lt⟩
theorem Gz.ne (h : Gz w B J s l) {k : Nat} (hk : k < B ∨ w.heap.size ≤ k) : s.ownBlock ≠ some k := fun e => by
  have := h.lt e
  omega
theorem Gz.gr (h : Gz w B J t l) (hg : Gr s w w') (hap : Ap s t) : Gz w' B J t l := by
  rcases h with h | ⟨g, cap, xs, rfl, h2, h3, h4⟩
  · exact .inl h
  · exact .inr ⟨g, cap, xs, rfl, h2, h3.to (hg.at_ h3.lt (fun e => hap g e rfl)), h4.to fun _ _ _ _ z => z.gr hg⟩
theorem Ap.nil (t : Value) : Ap (.slice none 0 0) t := fun g h => by simp [Value.ownBlock] at h
theorem Ap.symm (h : Ap s t) : Ap t s := fun g h1 h2 => h g h2 h1
theorem Ap.nw (h : Ap s t) (ht : Gz w B J t l) (hn : Nw w s s') : Ap s' t := fun g h1 h2 => by
  rcases hn with e | ⟨k, hk, e⟩
  · exact h g (e ▸ h1) h2
  · rw [e] at h1
    injection h1 with h1
    have := ht.lt h2
    omega
theorem Gr.below {A : Nat} {w0 : World} (hb : Below A w0 w) (hs : A ≤ w.heap.size) (h : Gz w B J s l) (hg : Gr s w w') (hB : A ≤ B) : Below A w0 w' :=
  ⟨hg.grown.os.trans hb.os, hg.grown.tape.trans hb.tape, hg.grown.output.trans hb.output, Nat.le_trans hb.size hg.grown.size, fun k hk => (hg.at_ (Nat.lt_of_lt_of_le hk hs) (h.ne (.inl (by omega)))).trans (hb.block k hk)⟩
end
/-- What an append of the integer X onto s has made. -/
def Pu (V : World) (B J : Nat) (s : Value) (l : List Int) (X : Int) (s' : Value) (w' : World) : Prop := Gz w' B J s' (l ++ [X]) ∧ Gr s V w' ∧ Nw V s s'
theorem Pu.over {V V2 w' : World} {B J : Nat} {s s' : Value} {l : List Int} {X : Int} (h : Pu V2 B J s l X s' w') (hb : Below V.heap.size V V2) : Pu V B J s l X s' w' := by
  refine ⟨h.1, ⟨⟨h.2.1.grown.os.trans hb.os, h.2.1.grown.tape.trans hb.tape, h.2.1.grown.output.trans hb.output, Nat.le_trans hb.size h.2.1.grown.size, fun k hk hr => (h.2.1.grown.block k (Nat.lt_of_lt_of_le hk hb.size) hr).trans (hb.block k hk)⟩, fun _ _ _ _ h' => h.2.1.rd _ _ _ _ (h'.go hb)⟩, ?_⟩
  rcases h.2.2 with e | ⟨k, hk, e⟩
  · exact .inl e
  · exact .inr ⟨k, Nat.le_trans hb.size hk, e⟩
theorem run_pushG (V : World) (ty : TypeId) {B J m c : Nat} {s : Value} {l : List Int} {A : Option Addr} {X : Int} (h : Gz V B J s l) (hn : l.length ≤ 1000) (hB : B ≤ V.heap.size) (z : Zn V A m c X J) :
    ∃ s' w', (Builtin.append_ #[49, 49] ty #[s, .slice (some ⟨V.heap.size, 0, none⟩) 1 1]).run Tryz.prog (V.alloc (.cells #[.bool (ngB X), .slice A m c] 24)) = .ok s' w' ∧ Pu V B J s l X s' w' := by
  have hx := Bx.new V (ngB X) A m c
  have hsz : (V.alloc (.cells #[.bool (ngB X), .slice A m c] 24)).heap.size = V.heap.size + 1 := by simp
  rcases h with ⟨rfl, rfl⟩ | ⟨g, cap, xs, rfl, hg, ho, hc⟩
  · obtain ⟨cap, w', hr, h2, h3⟩ := run_pushZ0 (V.alloc (.cells #[.bool (ngB X), .slice A m c] 24)) ty hx.c0 hx.c1
    have hb := bthen (below_alloc V _) h3
    rw [hsz] at h2 hr
    exact ⟨_, _, hr, .inr ⟨_, cap, _, rfl, by omega, h2, ⟨A, m, c, [], rfl, z.keep hb, rfl⟩⟩, ⟨⟨hb.os, hb.tape, hb.output, hb.size, fun k hk _ => hb.block k hk⟩, fun _ _ _ _ h => h.go hb⟩, .inr ⟨V.heap.size + 1, by omega, rfl⟩⟩
  · obtain ⟨g', cap', w', hr, h2, h3, h4⟩ := run_pushZ (V.alloc (.cells #[.bool (ngB X), .slice A m c] 24)) ty (ho.alloc _) hn hx.c0 hx.c1
    have hG : Gr (.slice (some ⟨g, 0, none⟩) l.length cap) (V.alloc (.cells #[.bool (ngB X), .slice A m c] 24)) w' := ⟨h3, fun _ _ _ _ h => h.by_ (ho.alloc _) h3⟩
    have hG2 := hG.alloc
    have e : (l ++ [X]).length = l.length + 1 := by simp
    refine ⟨_, _, hr, .inr ⟨g', cap', _, by rw [e], ?_, by rw [e]; exact h2, (hc.to fun _ _ _ _ z => z.gr hG2).snoc (z.gr hG2)⟩, hG2, ?_⟩
    · rcases h4 with rfl | rfl
      · exact hg
      · omega
    · rcases h4 with rfl | rfl
      · exact .inl rfl
      · exact .inr ⟨_, Nat.le_trans (Nat.le_succ _) (Nat.le_of_eq hsz.symm), rfl⟩
theorem wpo_pushG {V : World} {o : Oper} {a : Act} {K : Act → World → Prop} {Q : Exit → Act → World → Prop} (s x : Operand)
    (hop : o.op = .call { callee := .builtin .append, args := #[s, x], argTypes := #[49, 49] }) {v : Value} (hs : a.eval s = v)
    {B J m c : Nat} {l : List Int} {A : Option Addr} {X : Int} (h : Gz V B J v l) (hn : l.length ≤ 1000) (hB : B ≤ V.heap.size) (z : Zn V A m c X J) (hx : a.eval x = .slice (some ⟨V.heap.size, 0, none⟩) 1 1)
    (hK : ∀ s' w', Pu V B J v l X s' w' → K (a.put o.dst s') w') : o.wp Tryz.prog a (V.alloc (.cells #[.bool (ngB X), .slice A m c] 24)) K Q := by
  obtain ⟨s', w', hr, h2⟩ := run_pushG V o.type h hn hB z
  unfold Oper.wp execOp
  simp only [hop, resolve, invoke, builtin, Sem.run_bind, Sem.run_pure, Result.andThen_ok, List.map_toArray, List.map_cons, List.map_nil, hs, hx, hr]
  exact hK _ _ h2
theorem step_pushG {V : World} {ops : Array Oper} {o : Oper} {a : Act} {K : Act → World → Prop} {Q : Exit → Act → World → Prop} {E : Prop} (hgd : o.guard = none) (s x : Operand)
    (hop : o.op = .call { callee := .builtin .append, args := #[s, x], argTypes := #[49, 49] }) {v : Value} (hs : a.eval s = v)
    {B J m c : Nat} {l : List Int} {A : Option Addr} {X : Int} (h : Gz V B J v l) (hn : l.length ≤ 1000) (hB : B ≤ V.heap.size) (z : Zn V A m c X J) (hx : a.eval x = .slice (some ⟨V.heap.size, 0, none⟩) 1 1)
    (hK : ∀ s' w', Pu V B J v l X s' w' → K (a.put o.dst s') w') :
    if Region.wanted o (yielded ops a.tmps) = true then Oper.wp Tryz.prog o a (V.alloc (.cells #[.bool (ngB X), .slice A m c] 24)) K Q else E := by
  rw [if_pos (by simp [Region.wanted, hgd])]
  exact wpo_pushG s x hop hs h hn hB z hx hK
theorem wp_pushG {V : World} {ops : Array Oper} {rest : List Oper} {o : Oper} {a : Act} {Q : Exit → Act → World → Prop} (hgd : o.guard = none) (s x : Operand)
    (hop : o.op = .call { callee := .builtin .append, args := #[s, x], argTypes := #[49, 49] }) {v : Value} (hs : a.eval s = v)
    {B J m c : Nat} {l : List Int} {A : Option Addr} {X : Int} (h : Gz V B J v l) (hn : l.length ≤ 1000) (hB : B ≤ V.heap.size) (z : Zn V A m c X J) (hx : a.eval x = .slice (some ⟨V.heap.size, 0, none⟩) 1 1)
    (hK : ∀ s' w', Pu V B J v l X s' w' → wpList Tryz.prog ops Q rest (a.put o.dst s') w') : wpList Tryz.prog ops Q (o :: rest) a (V.alloc (.cells #[.bool (ngB X), .slice A m c] 24)) :=
  wpList_plain hgd fun K hK2 => wpo_pushG s x hop hs h hn hB z hx fun s' w' h2 => hK2 _ _ (hK s' w' h2)
end Go.Proofs.YthlpdljkclngdaaGreat
