/-
  matrices as they stand: read; the document's Own, Exact.
-/
import Derived.Test.YtbpamkpclofnbaaGreatVpush
import Derived.Test.YtbpamkpclofnbaaGreatPe
import Derived.Test.YtbpamkpclofnbaaGreatMclo
import Derived.Test.YtbpamkpclofnbaaGreatMbuild
import Derived.Deep.SlicePairs
namespace Go.Proofs.YtbpamkpclofnbaaGreat
open Go.RowKit
open MP.Se (nf co)
set_option linter.unusedVariables false
set_option maxRecDepth 100000

/-- The slice '.slice A n c' of integers stands so: of each its sign and its limbs. -/
def Pr (w : World) (A : Option Addr) (n c : Nat) (R : List (Bool × List Int)) : Prop :=
  R.length = n ∧ n ≤ c ∧ n ≤ 100000 ∧ (0 < n → ∃ d o, A = some ⟨d, o, none⟩ ∧ d < w.heap.size ∧ ∀ k (hk : k < R.length), ∃ A' m c', w.cell? ⟨d, o + k * 2, none⟩ = some (.bool R[k].1) ∧ w.cell? ⟨d, o + k * 2 + 1, none⟩ = some (.slice A' m c') ∧ Rd w w.heap.size A' m c' R[k].2)
section
variable {w v W : World} {g B n c J K : Nat} {A : Option Addr} {l : List Int} {R : List (Bool × List Int)}
theorem Pr.len (p : Pr w A n c R) : R.length = n := p.1
theorem Pr.big (p : Pr w A n c R) : n ≤ 100000 := p.2.2.1
theorem Pr.keep (p : Pr W A n c R) (hb : Below W.heap.size W v) : Pr v A n c R := ⟨p.1, p.2.1, p.2.2.1, fun hn => by
  obtain ⟨d, o, e, hd, hc⟩ := p.2.2.2 hn
  refine ⟨d, o, e, Nat.lt_of_lt_of_le hd hb.size, fun k hk => ?_⟩
  obtain ⟨A', m, c', h1, h2, h3⟩ := hc k hk
  exact ⟨A', m, c', (hb.cell (p := ⟨d, o + k * 2, none⟩) hd).trans h1, (hb.cell (p := ⟨d, o + k * 2 + 1, none⟩) hd).trans h2, (h3.below hb).more hb.size⟩⟩
instance : Mv (Pr W A n c R) W v (Pr v A n c R) := ⟨fun x y => x.keep y⟩
theorem Pr.ec (p : Pr w A n c R) {k : Nat} (hk : k < n) : ∃ d o A' m c', A = some ⟨d, o, none⟩ ∧ Ec w d (o + k * 2) (R[k]'(by have := p.1; omega)).1 A' m c' ∧ Rd w w.heap.size A' m c' (R[k]'(by have := p.1; omega)).2 := by
  obtain ⟨d, o, e, hd, hc⟩ := p.2.2.2 (by omega)
  obtain ⟨A', m, c', h1, h2, h3⟩ := hc k (by have := p.1; omega)
  exact ⟨d, o, A', m, c', e, ⟨hd, h1, h2⟩, h3⟩
/-- What is read stands somehow. -/
theorem Pd.raw (h : Pd w w.heap.size A n c l J) : ∃ R, Pr w A n c R ∧ l = R.map (fun r => zi r.1 (vl Wd r.2)) ∧ ∀ r ∈ R, r.2.length ≤ J := by
  by_cases hn : 0 < n
  · obtain ⟨d, o, e, hd, hc⟩ := h.at_ hn
    have key : ∀ m, m ≤ l.length → ∃ R : List (Bool × List Int), R.length = m ∧ (∀ k (hk : k < R.length), ∃ A' m c', w.cell? ⟨d, o + k * 2, none⟩ = some (.bool R[k].1) ∧ w.cell? ⟨d, o + k * 2 + 1, none⟩ = some (.slice A' m c') ∧ Rd w w.heap.size A' m c' R[k].2) ∧ l.take m = R.map (fun r => zi r.1 (vl Wd r.2)) ∧ ∀ r ∈ R, r.2.length ≤ J := fun m hm => by
      induction m with
      | zero => exact ⟨[], rfl, fun k hk => absurd hk (by simp), rfl, by simp⟩
      | succ m ih =>
        obtain ⟨R, h1, h2, h3, h4⟩ := ih (by omega)
        obtain ⟨b, A', n', c', g1, g2, L, g3, g4, g5⟩ := hc m (by omega)
        refine ⟨R ++ [(b, L)], by simp [h1], fun k hk => ?_, ?_, ?_⟩
        · by_cases hkm : k < R.length
          · rw [List.getElem_append_left hkm]; exact h2 k hkm
          · obtain rfl : k = m := by simp at hk; omega
            rw [List.getElem_append_right (by omega)]
            simp only [h1, Nat.sub_self, List.getElem_cons_zero]
            exact ⟨A', n', c', g1, g2, g3⟩
        · rw [List.take_add_one, h3, List.getElem?_eq_getElem (by omega), List.map_append, ← g4]; rfl
        · intro r hr
          rcases List.mem_append.1 hr with hr | hr
          · exact h4 r hr
          · simp at hr; subst hr; exact g3.len ▸ g5
    obtain ⟨R, h1, h2, h3, h4⟩ := key l.length (Nat.le_refl _)
    rw [List.take_length] at h3
    exact ⟨R, ⟨by rw [h1]; exact h.len, h.cap, h.big, fun _ => ⟨d, o, e, hd, h2⟩⟩, h3, h4⟩
  · have := h.len
    obtain rfl : l = [] := List.eq_nil_of_length_eq_zero (by omega)
    exact ⟨[], ⟨by simp; omega, h.cap, h.big, fun h0 => absurd h0 hn⟩, rfl, by simp⟩
/-- What stands is read. -/
theorem Pr.pd (p : Pr w A n c R) (hJ : ∀ r ∈ R, r.2.length ≤ J) : Pd w w.heap.size A n c (R.map fun r => zi r.1 (vl Wd r.2)) J := ⟨by simp [p.1], p.2.1, p.2.2.1, fun hn => by
  obtain ⟨d, o, e, hd, hc⟩ := p.2.2.2 hn
  refine ⟨d, o, e, hd, fun k hk => ?_⟩
  rw [List.length_map] at hk
  obtain ⟨A', m, c', h1, h2, h3⟩ := hc k hk
  exact ⟨_, A', m, c', h1, h2, _, h3, by rw [List.getElem_map], by have := hJ _ (List.getElem_mem hk); rw [h3.len] at this; exact this⟩⟩
end
theorem Rd.drw' {w : World} {B : Nat} {A : Option Addr} {n c : Nat} {l : List Int} (h : Rd w B A n c l) : Rd w.drew B A n c l := h
end Go.Proofs.YtbpamkpclofnbaaGreat
namespace Go.Proofs.YtbpamkpclofnbaaGreat
open Go.RowKit
open MP.Se (nf co)
set_option linter.unusedVariables false
set_option maxRecDepth 100000

section
theorem run_pushY0 (w : World) (ty : TypeId) {g0 : Nat} {b : Bool} {A : Option Addr} {m c : Nat} (h0 : w.cell? ⟨g0, 0, none⟩ = some (.bool b)) (h1 : w.cell? ⟨g0, 1, none⟩ = some (.slice A m c)) :
    ∃ cap w', (Builtin.append_ #[22, 22] ty #[.slice none 0 0, .slice (some ⟨g0, 0, none⟩) 1 1]).run Tryz.prog w = .ok (.slice (some ⟨w.heap.size, 0, none⟩) 1 cap) w' ∧ Oz w' w.heap.size 1 cap [.bool b, .slice A m c] ∧ Below w.heap.size w w' := by
  obtain ⟨i0, hi, hz0, hz1, hz2⟩ := info_parts Tryz.infoI
  have hr := run_append_nil (P := Tryz.prog) w 22 ty 30 i0 _ Tryz.underlying22 hi hz0 ⟨g0, 0, none⟩ 1 1 [.bool b, .slice A m c] (by rw [hz1]; rfl) (two_cells h0 h1) (by omega) (by omega) (by rw [hz2]; omega)
  have hge := grownCap_ge w 1 0 30
  refine ⟨_, _, hr, ⟨_, heap_alloc_new w.drew _, hge, grownCap_le_maxLen w 1 0 _ (by unfold maxLen; omega), ?_, ?_, rfl, ?_⟩, (below_drew (Below.refl w.heap.size w)).alloc (Nat.le_refl _) _⟩
  · simp only [Array.size_append, List.size_toArray, size_zeroCells]
    simp [Value.cells]
    omega
  · simp
  · rw [Array.toList_append]
    exact kd_app (kd_two b A m c) (kd_zero _)
theorem run_pushY (w : World) (ty : TypeId) {g n cap : Nat} {xs : List Value} (h : Oz w g n cap xs) (hn : n ≤ 1000) {g0 : Nat} {b : Bool} {A : Option Addr} {m c : Nat} (h0 : w.cell? ⟨g0, 0, none⟩ = some (.bool b)) (h1 : w.cell? ⟨g0, 1, none⟩ = some (.slice A m c)) :
    ∃ g' cap' w', (Builtin.append_ #[22, 22] ty #[.slice (some ⟨g, 0, none⟩) n cap, .slice (some ⟨g0, 0, none⟩) 1 1]).run Tryz.prog w = .ok (.slice (some ⟨g', 0, none⟩) (n + 1) cap') w' ∧ Oz w' g' (n + 1) cap' (xs ++ [.bool b, .slice A m c]) ∧ w.grownBy w' (some g) ∧ (g' = g ∨ g' = w.heap.size) := by
  obtain ⟨i0, hi, hz0, hz1, hz2⟩ := info_parts Tryz.infoI
  obtain ⟨cur, hh, hnc, hcm, hcs, htk, hxl, hk⟩ := h
  by_cases hroom : n + 1 ≤ cap
  · have hr := run_append_room (P := Tryz.prog) w 22 ty 30 i0 Tryz.underlying22 hi g n cap cur hh ⟨g0, 0, none⟩ 1 1 [.bool b, .slice A m c] (by rw [hz1]; rfl) (two_cells h0 h1) (fun u hu => by simp at hu; rcases hu with rfl | rfl <;> rfl) hroom (by rw [hz1, hcs]; simp; omega)
    rw [hz1] at hr
    refine ⟨g, cap, _, hr, ⟨_, setRow_heap w g cur _ _ _ hh, hroom, hcm, ?_, ?_, by simp [hxl]; omega, ?_⟩, ⟨rfl, rfl, rfl, by simp [World.setRow], fun k _ hk => setRow_other w g k _ (fun e => hk (by rw [e]))⟩, .inl rfl⟩
    · simp [hcs]
      omega
    · rw [htk, show (n + 1) * 2 = (xs ++ [Value.bool b, Value.slice A m c]).length by simp [hxl]; omega]
      exact List.take_left
    · refine kd_app (kd_app ?_ (kd_two b A m c)) ?_
      · exact fun u hu x => hk u (List.mem_of_mem_take hu) x
      · exact fun u hu x => hk u (List.mem_of_mem_drop hu) x
  · have hxk : Kd xs := fun u hu x => hk u (List.mem_of_mem_take (by rw [htk]; exact hu)) x
    have hr := run_append_grow (P := Tryz.prog) w 22 ty 30 i0 _ Tryz.underlying22 hi hz0 ⟨g, 0, none⟩ n cap xs (by rw [hz1]; exact hxl) (fun j u hj => by
        have hjl : j < xs.length := (List.getElem?_eq_some_iff.1 hj).1
        have hcj : w.cell? ⟨g, j, none⟩ = some u := by
          rw [cell_of_row w g j _ _ (0, 0) hh, ← hj, ← htk, List.getElem?_take_of_lt (by omega)]
          simp
        unfold Addr.add
        by_cases hj0 : j = 0
        · subst hj0; simpa using hcj
        · simpa [hj0] using hcj) ⟨g0, 0, none⟩ 1 1 [.bool b, .slice A m c] (by rw [hz1]; rfl) (two_cells h0 h1) (by omega) (by omega) (growslice_fits (by omega) (by rw [hz2]; omega))
    have hge := grownCap_ge w (n + 1) cap 30
    refine ⟨_, _, _, hr, ⟨_, heap_alloc_new w.drew _, hge, grownCap_le_maxLen w (n + 1) cap _ (by unfold maxLen; omega), ?_, ?_, by simp [hxl]; omega, ?_⟩, ⟨rfl, rfl, rfl, by simp, fun k hk _ => heap_alloc_old w.drew _ hk⟩, .inr rfl⟩
    · simp only [Array.size_append, List.size_toArray, size_zeroCells]
      simp [Value.cells, hxl]
      omega
    · simp only [Array.toList_append, List.append_assoc]
      rw [← List.append_assoc, show (n + 1) * 2 = (xs ++ [Value.bool b, Value.slice A m c]).length by simp [hxl]; omega]
      exact List.take_left
    · simp only [Array.toList_append]
      exact kd_app (kd_app hxk (kd_two b A m c)) (kd_zero _)
end
/-- These cells are these integers, each in normal form. -/
def CzR (w : World) (J : Nat) : List Value → List (Bool × List Int) → Prop
  | xs, [] => xs = []
  | xs, X :: l => ∃ A n c ys, xs = Value.bool (X.1) :: .slice A n c :: ys ∧ Rd w w.heap.size A n c X.2 ∧ CzR w J ys l
theorem CzR.snoc {w : World} {J : Nat} {A : Option Addr} {n c : Nat} {X : Bool × List Int} (z : Rd w w.heap.size A n c X.2) : ∀ {l : List (Bool × List Int)} {xs : List Value}, CzR w J xs l → CzR w J (xs ++ [.bool (X.1), .slice A n c]) (l ++ [X])
  | [], xs, h => by
    have e : xs = [] := h
    subst e
    exact ⟨A, n, c, [], rfl, z, rfl⟩
  | Y :: l, xs, h => by
    obtain ⟨A1, n1, c1, ys, rfl, hz, hc⟩ := h
    exact ⟨A1, n1, c1, ys ++ [.bool (X.1), .slice A n c], rfl, hz, CzR.snoc z hc⟩
theorem CzR.to {w w' : World} {J : Nat} (hz : ∀ A n c (X : Bool × List Int), Rd w w.heap.size A n c X.2 → Rd w' w'.heap.size A n c X.2) : ∀ {l : List (Bool × List Int)} {xs : List Value}, CzR w J xs l → CzR w' J xs l
  | [], xs, h => h
  | Y :: l, xs, h => by
    obtain ⟨A1, n1, c1, ys, rfl, hz1, hc⟩ := h
    exact ⟨A1, n1, c1, ys, rfl, hz _ _ _ _ hz1, CzR.to hz hc⟩
/-- The value s is a slice of the integers l: nil for none, else in a block of its own from B on. -/
def GzR (w : World) (B J : Nat) (s : Value) (l : List (Bool × List Int)) : Prop :=
  (s = .slice none 0 0 ∧ l = []) ∨ ∃ g cap xs, s = .slice (some ⟨g, 0, none⟩) l.length cap ∧ B ≤ g ∧ Oz w g l.length cap xs ∧ CzR w J xs l
section
variable {w w' : World} {B J : Nat} {s s' t : Value} {l : List (Bool × List Int)}
theorem GzR.nil (w : World) (B J : Nat) : GzR w B J (.slice none 0 0) [] := .inl ⟨rfl, rfl⟩
theorem GzR.keep (h : GzR w B J s l) (hb : Below w.heap.size w w') : GzR w' B J s l := by
  rcases h with h | ⟨g, cap, xs, h1, h2, h3, h4⟩
  · exact .inl h
  · exact .inr ⟨g, cap, xs, h1, h2, h3.keep hb, h4.to fun _ _ _ _ z => z.go hb⟩
instance GzR.mv {v w : World} : Mv (GzR v B J s l) v w (GzR w B J s l) := ⟨fun h hb => GzR.keep h hb⟩
theorem GzR.drw (h : GzR w B J s l) : GzR w.drew B J s l := h.keep (below_drew (Below.refl _ _))
theorem GzR.lt (h : GzR w B J s l) {k : Nat} (hk : s.ownBlock = some k) : B ≤ k ∧ k < w.heap.size := by
  rcases h with ⟨rfl, _⟩ | ⟨g, cap, xs, rfl, h2, h3, h4⟩
  · simp [Value.ownBlock] at hk
  · simp [Value.ownBlock] at hk
    subst hk
    exact ⟨h2, h3.lt⟩
theorem GzR.ne (h : GzR w B J s l) {k : Nat} (hk : k < B ∨ w.heap.size ≤ k) : s.ownBlock ≠ some k := fun e => by
  have := h.lt e
  omega
theorem GzR.gr (h : GzR w B J t l) (hg : Gr s w w') (hap : Ap s t) : GzR w' B J t l := by
  rcases h with h | ⟨g, cap, xs, rfl, h2, h3, h4⟩
  · exact .inl h
  · exact .inr ⟨g, cap, xs, rfl, h2, h3.to (hg.at_ h3.lt (fun e => hap g e rfl)), h4.to fun _ _ _ _ z => hg.rd _ _ _ _ z⟩
end
/-- What an append of the integer X onto s has made. -/
def PuR (V : World) (B J : Nat) (s : Value) (l : List (Bool × List Int)) (X : Bool × List Int) (s' : Value) (w' : World) : Prop := GzR w' B J s' (l ++ [X]) ∧ Gr s V w' ∧ Nw V s s'
theorem PuR.over {V V2 w' : World} {B J : Nat} {s s' : Value} {l : List (Bool × List Int)} {X : Bool × List Int} (h : PuR V2 B J s l X s' w') (hb : Below V.heap.size V V2) : PuR V B J s l X s' w' := by
  refine ⟨h.1, ⟨⟨h.2.1.grown.os.trans hb.os, h.2.1.grown.tape.trans hb.tape, h.2.1.grown.output.trans hb.output, Nat.le_trans hb.size h.2.1.grown.size, fun k hk hr => (h.2.1.grown.block k (Nat.lt_of_lt_of_le hk hb.size) hr).trans (hb.block k hk)⟩, fun _ _ _ _ h' => h.2.1.rd _ _ _ _ (h'.go hb)⟩, ?_⟩
  rcases h.2.2 with e | ⟨k, hk, e⟩
  · exact .inl e
  · exact .inr ⟨k, Nat.le_trans hb.size hk, e⟩
theorem run_pushR (V : World) (ty : TypeId) {B J m c : Nat} {s : Value} {l : List (Bool × List Int)} {A : Option Addr} {X : Bool × List Int} (h : GzR V B J s l) (hn : l.length ≤ 1000) (hB : B ≤ V.heap.size) (z : Rd V V.heap.size A m c X.2) :
    ∃ s' w', (Builtin.append_ #[22, 22] ty #[s, .slice (some ⟨V.heap.size, 0, none⟩) 1 1]).run Tryz.prog (V.alloc (.cells #[.bool (X.1), .slice A m c] 30)) = .ok s' w' ∧ PuR V B J s l X s' w' := by
  have hx := Bx.new V (X.1) A m c
  have hsz : (V.alloc (.cells #[.bool (X.1), .slice A m c] 30)).heap.size = V.heap.size + 1 := by simp
  rcases h with ⟨rfl, rfl⟩ | ⟨g, cap, xs, rfl, hg, ho, hc⟩
  · obtain ⟨cap, w', hr, h2, h3⟩ := run_pushY0 (V.alloc (.cells #[.bool (X.1), .slice A m c] 30)) ty hx.c0 hx.c1
    have hb := bthen (below_alloc V _) h3
    rw [hsz] at h2 hr
    exact ⟨_, _, hr, .inr ⟨_, cap, _, rfl, by omega, h2, ⟨A, m, c, [], rfl, z.go hb, rfl⟩⟩, ⟨⟨hb.os, hb.tape, hb.output, hb.size, fun k hk _ => hb.block k hk⟩, fun _ _ _ _ h => h.go hb⟩, .inr ⟨V.heap.size + 1, by omega, rfl⟩⟩
  · obtain ⟨g', cap', w', hr, h2, h3, h4⟩ := run_pushY (V.alloc (.cells #[.bool (X.1), .slice A m c] 30)) ty (ho.alloc _) hn hx.c0 hx.c1
    have hG : Gr (.slice (some ⟨g, 0, none⟩) l.length cap) (V.alloc (.cells #[.bool (X.1), .slice A m c] 30)) w' := ⟨h3, fun _ _ _ _ h => h.by_ (ho.alloc _) h3⟩
    have hG2 := hG.alloc
    have e : (l ++ [X]).length = l.length + 1 := by simp
    refine ⟨_, _, hr, .inr ⟨g', cap', _, by rw [e], ?_, by rw [e]; exact h2, (hc.to fun _ _ _ _ z => hG2.rd _ _ _ _ z).snoc (hG2.rd _ _ _ _ z)⟩, hG2, ?_⟩
    · rcases h4 with rfl | rfl
      · exact hg
      · omega
    · rcases h4 with rfl | rfl
      · exact .inl rfl
      · exact .inr ⟨_, Nat.le_trans (Nat.le_succ _) (Nat.le_of_eq hsz.symm), rfl⟩
theorem wpo_pushR {V : World} {o : Oper} {a : Act} {K : Act → World → Prop} {Q : Exit → Act → World → Prop} (s x : Operand)
    (hop : o.op = .call { callee := .builtin .append, args := #[s, x], argTypes := #[22, 22] }) {v : Value} (hs : a.eval s = v)
    {B J m c : Nat} {l : List (Bool × List Int)} {A : Option Addr} {X : Bool × List Int} (h : GzR V B J v l) (hn : l.length ≤ 1000) (hB : B ≤ V.heap.size) (z : Rd V V.heap.size A m c X.2) (hx : a.eval x = .slice (some ⟨V.heap.size, 0, none⟩) 1 1)
    (hK : ∀ s' w', PuR V B J v l X s' w' → K (a.put o.dst s') w') : o.wp Tryz.prog a (V.alloc (.cells #[.bool (X.1), .slice A m c] 30)) K Q := by
  obtain ⟨s', w', hr, h2⟩ := run_pushR V o.type h hn hB z
  unfold Oper.wp execOp
  simp only [hop, resolve, invoke, builtin, Sem.run_bind, Sem.run_pure, Result.andThen_ok, List.map_toArray, List.map_cons, List.map_nil, hs, hx, hr]
  exact hK _ _ h2
theorem wp_pushR {V : World} {ops : Array Oper} {rest : List Oper} {o : Oper} {a : Act} {Q : Exit → Act → World → Prop} (hgd : o.guard = none) (s x : Operand)
    (hop : o.op = .call { callee := .builtin .append, args := #[s, x], argTypes := #[22, 22] }) {v : Value} (hs : a.eval s = v)
    {B J m c : Nat} {l : List (Bool × List Int)} {A : Option Addr} {X : Bool × List Int} (h : GzR V B J v l) (hn : l.length ≤ 1000) (hB : B ≤ V.heap.size) (z : Rd V V.heap.size A m c X.2) (hx : a.eval x = .slice (some ⟨V.heap.size, 0, none⟩) 1 1)
    (hK : ∀ s' w', PuR V B J v l X s' w' → wpList Tryz.prog ops Q rest (a.put o.dst s') w') : wpList Tryz.prog ops Q (o :: rest) a (V.alloc (.cells #[.bool (X.1), .slice A m c] 30)) :=
  wpList_plain hgd fun K hK2 => wpo_pushR s x hop hs h hn hB z hx fun s' w' h2 => hK2 _ _ (hK s' w' h2)
theorem gq_new {v : World} {B g J : Nat} (x : v.heap[g]? = some (.cells #[] 30 (0, 0))) (hB : B ≤ g) : GzR v B J (.slice (some ⟨g, 0, none⟩) 0 0) [] :=
  .inr ⟨_, 0, [], rfl, hB, ⟨#[], x, Nat.le_refl _, by unfold maxLen; omega, rfl, rfl, rfl, fun u hu => by cases hu⟩, rfl⟩
theorem Gr.below2 {A B J : Nat} {w0 w w' : World} {s : Value} {l : List (Bool × List Int)} (hb : Below A w0 w) (hs : A ≤ w.heap.size) (h : GzR w B J s l) (hg : Gr s w w') (hB : A ≤ B) : Below A w0 w' :=
  ⟨hg.grown.os.trans hb.os, hg.grown.tape.trans hb.tape, hg.grown.output.trans hb.output, Nat.le_trans hb.size hg.grown.size, fun k hk => (hg.at_ (Nat.lt_of_lt_of_le hk hs) (h.ne (.inl (by omega)))).trans (hb.block k hk)⟩
theorem GzR.cz {w : World} {J : Nat} : ∀ {l : List (Bool × List Int)} {xs : List Value}, CzR w J xs l → xs.length = l.length * 2 ∧ ∀ k (hk : k < l.length), ∃ A n c, xs[k * 2]? = some (.bool l[k].1) ∧ xs[k * 2 + 1]? = some (.slice A n c) ∧ Rd w w.heap.size A n c l[k].2
  | [], xs, h => by
    have e : xs = [] := h
    subst e
    exact ⟨rfl, fun k hk => absurd hk (by simp)⟩
  | X :: l, xs, h => by
    obtain ⟨A, n, c, ys, rfl, hz, hc⟩ := h
    obtain ⟨h1, h2⟩ := GzR.cz hc
    refine ⟨by simp [h1]; omega, fun k hk => ?_⟩
    cases k with
    | zero => exact ⟨A, n, c, rfl, rfl, hz⟩
    | succ k =>
      obtain ⟨A', n', c', e1, e2, e3⟩ := h2 k (by simpa using hk)
      refine ⟨A', n', c', ?_, ?_, e3⟩
      · rw [show (k + 1) * 2 = k * 2 + 1 + 1 by omega]; simpa using e1
      · rw [show (k + 1) * 2 + 1 = k * 2 + 1 + 1 + 1 by omega]; simpa using e2
theorem GzR.pr {w : World} {B J : Nat} {s : Value} {l : List (Bool × List Int)} (h : GzR w B J s l) (hl : l.length ≤ 100000) : ∃ A c, s = .slice A l.length c ∧ Pr w A l.length c l := by
  rcases h with ⟨rfl, rfl⟩ | ⟨g, cap, xs, rfl, hg, ⟨cur, hh, hnc, hcm, hcs, htk, hxl, hk⟩, hc⟩
  · exact ⟨none, 0, rfl, rfl, Nat.le_refl _, hl, fun h => absurd h (by simp)⟩
  · obtain ⟨h1, h2⟩ := GzR.cz hc
    refine ⟨_, cap, rfl, rfl, hnc, hl, fun hn => ⟨g, 0, rfl, (Array.getElem?_eq_some_iff.1 hh).1, fun k hk => ?_⟩⟩
    obtain ⟨A, n, c, e1, e2, e3⟩ := h2 k hk
    have key : ∀ i, i < l.length * 2 → w.cell? ⟨g, i, none⟩ = xs[i]? := fun i hi => by
      rw [cell_of_row w g i _ _ (0, 0) hh, ← htk, List.getElem?_take_of_lt hi]; simp
    refine ⟨A, n, c, ?_, ?_, e3⟩
    · rw [Nat.zero_add, key _ (by omega)]; exact e1
    · rw [Nat.zero_add, key _ (by omega)]; exact e2
end Go.Proofs.YtbpamkpclofnbaaGreat
namespace Go.Proofs.YtbpamkpclofnbaaGreat
open Go.RowKit
set_option linter.unusedVariables false
set_option maxRecDepth 100000

/-- The slice '.slice A n c' of slices of integers stands so. -/
def Mr (w : World) (A : Option Addr) (n c : Nat) (RR : List (List (Bool × List Int))) : Prop :=
  RR.length = n ∧ n ≤ c ∧ n ≤ 100000 ∧ (0 < n → ∃ d o, A = some ⟨d, o, none⟩ ∧ d < w.heap.size ∧ ∀ k (hk : k < RR.length), ∃ A' m c', w.cell? ⟨d, o + k, none⟩ = some (.slice A' m c') ∧ Pr w A' m c' RR[k])
/-- What a list of signs and limbs says. -/
def vr (R : List (Bool × List Int)) : List Int := R.map fun r => zi r.1 (vl Wd r.2)
/-- No number has more limbs. -/
def Rl (RR : List (List (Bool × List Int))) (J : Nat) : Prop := ∀ R ∈ RR, ∀ r ∈ R, r.2.length ≤ J
section
variable {w v W : World} {B n c J : Nat} {A : Option Addr} {M : List (List Int)} {RR : List (List (Bool × List Int))}
theorem Mr.keep (p : Mr W A n c RR) (hb : Below W.heap.size W v) : Mr v A n c RR := ⟨p.1, p.2.1, p.2.2.1, fun hn => by
  obtain ⟨d, o, e, hd, hc⟩ := p.2.2.2 hn
  refine ⟨d, o, e, Nat.lt_of_lt_of_le hd hb.size, fun k hk => ?_⟩
  obtain ⟨A', m, c', h1, h2⟩ := hc k hk
  exact ⟨A', m, c', (hb.cell (p := ⟨d, o + k, none⟩) hd).trans h1, h2.keep hb⟩⟩
instance : Mv (Mr W A n c RR) W v (Mr v A n c RR) := ⟨fun x y => x.keep y⟩
theorem Mr.len (p : Mr w A n c RR) : RR.length = n := p.1
theorem Mr.row (p : Mr w A n c RR) {k : Nat} (hk : k < n) : ∃ d o A' m c', A = some ⟨d, o, none⟩ ∧ Vc w d (o + k) (.slice A' m c') ∧ Pr w A' m c' (RR[k]'(by have := p.1; omega)) := by
  obtain ⟨d, o, e, hd, hc⟩ := p.2.2.2 (by omega)
  obtain ⟨A', m, c', h1, h2⟩ := hc k (by have := p.1; omega)
  exact ⟨d, o, A', m, c', e, ⟨hd, h1⟩, h2⟩
/-- What stands is read. -/
theorem Mr.md (p : Mr w A n c RR) (hJ : Rl RR J) : Md w w.heap.size A n c (RR.map vr) J := ⟨by simp [p.1], p.2.1, p.2.2.1, fun hn => by
  obtain ⟨d, o, e, hd, hc⟩ := p.2.2.2 hn
  refine ⟨d, o, e, hd, fun k hk => ?_⟩
  rw [List.length_map] at hk
  obtain ⟨A', m, c', h1, h2⟩ := hc k hk
  exact ⟨A', m, c', h1, by rw [List.getElem_map]; exact h2.pd (hJ _ (List.getElem_mem hk))⟩⟩
/-- What is read stands somehow. -/
theorem Md.raw (h : Md w w.heap.size A n c M J) : ∃ RR, Mr w A n c RR ∧ M = RR.map vr ∧ Rl RR J := by
  by_cases hn : 0 < n
  · obtain ⟨d, o, e, hd, hc⟩ := h.2.2.2 hn
    have key : ∀ k, k < n → ∃ R : List (Bool × List Int), (∃ A' m c', w.cell? ⟨d, o + k, none⟩ = some (.slice A' m c') ∧ Pr w A' m c' R) ∧ M[k]? = some (vr R) ∧ ∀ r ∈ R, r.2.length ≤ J := by
      intro k hk
      have hk2 : k < M.length := by rw [h.1]; exact hk
      obtain ⟨A', m, c', h1, h2⟩ := hc k hk2
      obtain ⟨R, g1, g2, g3⟩ := h2.raw
      exact ⟨R, ⟨A', m, c', h1, g1⟩, by rw [List.getElem?_eq_getElem hk2, g2]; rfl, g3⟩
    obtain ⟨f, hf⟩ := Go.Deep.choose_lt key
    refine ⟨(List.range n).map f, ⟨by simp, h.2.1, h.2.2.1, fun _ => ⟨d, o, e, hd, fun k hk => ?_⟩⟩, ?_, ?_⟩
    · have hk2 : k < n := by simpa using hk
      simp only [List.getElem_map, List.getElem_range]
      exact (hf k hk2).1
    · apply List.ext_getElem?
      intro k
      by_cases hk : k < n
      · rw [(hf k hk).2.1]; simp [hk]
      · rw [List.getElem?_eq_none (by rw [h.1]; omega), List.getElem?_eq_none (by simp; omega)]
    · intro R hR r hr
      obtain ⟨k, hk, rfl⟩ := List.mem_map.1 hR
      exact (hf k (List.mem_range.1 hk)).2.2 r hr
  · have := h.1
    obtain rfl : M = [] := List.eq_nil_of_length_eq_zero (by omega)
    exact ⟨[], ⟨by simp; omega, h.2.1, h.2.2.1, fun h0 => absurd h0 hn⟩, rfl, fun R hR => by cases hR⟩
theorem Pr.gr {s : Value} {w' : World} {R : List (Bool × List Int)} (p : Pr w A n c R) (hg : Gr s w w') (hne : 0 < n → ∀ d o, A = some ⟨d, o, none⟩ → s.ownBlock ≠ some d) : Pr w' A n c R := ⟨p.1, p.2.1, p.2.2.1, fun hn => by
  obtain ⟨d, o, e, hd, hc⟩ := p.2.2.2 hn
  refine ⟨d, o, e, Nat.lt_of_lt_of_le hd hg.grown.size, fun k hk => ?_⟩
  obtain ⟨A', m, c', h1, h2, h3⟩ := hc k hk
  have hx := hg.at_ hd (hne hn d o e)
  exact ⟨A', m, c', (World.cell?_of_block hx).trans h1, (World.cell?_of_block hx).trans h2, hg.rd _ _ _ _ h3⟩⟩
end
/-- The slices of a gathered slice stand so, none of them where the outer slice is. -/
def RwR (w : World) (s : Value) (cs : List Value) (RR : List (List (Bool × List Int))) : Prop :=
  cs.length = RR.length ∧ ∀ k (hk : k < cs.length) (h2 : k < RR.length), ∃ A m c, cs[k] = .slice A m c ∧ Pr w A m c RR[k] ∧ (0 < m → ∀ d o, A = some ⟨d, o, none⟩ → s.ownBlock ≠ some d)
theorem RwR.keep {w v : World} {s : Value} {cs : List Value} {RR : List (List (Bool × List Int))} (h : RwR w s cs RR) (hb : Below w.heap.size w v) : RwR v s cs RR := ⟨h.1, fun k hk h2 => by
  obtain ⟨A, m, c, h3, h4, h5⟩ := h.2 k hk h2
  exact ⟨A, m, c, h3, h4.keep hb, h5⟩⟩
instance {w v : World} {s : Value} {cs : List Value} {RR : List (List (Bool × List Int))} : Mv (RwR w s cs RR) w v (RwR v s cs RR) := ⟨fun x y => x.keep y⟩
theorem RwR.nil (w : World) (s : Value) : RwR w s [] [] := ⟨rfl, fun k hk => absurd hk (by simp)⟩
/-- One more. -/
theorem RwR.push {V w' : World} {B m c : Nat} {s s' : Value} {cs : List Value} {RR : List (List (Bool × List Int))} {R : List (Bool × List Int)} {A : Option Addr} (h : RwR V s cs RR) (p : Pr V A m c R) (hp : 0 < m → ∀ d o, A = some ⟨d, o, none⟩ → s.ownBlock ≠ some d)
    (hm : Pm V B s cs (.slice A m c) s' w') : RwR w' s' (cs ++ [.slice A m c]) (RR ++ [R]) := by
  obtain ⟨gm2, hgr, hnw⟩ := hm
  have hown : ∀ x, x < V.heap.size → s.ownBlock ≠ some x → s'.ownBlock ≠ some x := fun x hx hne e => by
    rcases hnw with e2 | ⟨y, hy, e2⟩
    · exact hne (e2.symm.trans e)
    · rw [e2] at e; injection e with e; omega
  have hlt : ∀ {A : Option Addr} {m c : Nat} {R : List (Bool × List Int)}, Pr V A m c R → 0 < m → ∀ d o, A = some ⟨d, o, none⟩ → d < V.heap.size := fun p hm d o e => by
    obtain ⟨d', o', e', hd, _⟩ := p.2.2.2 hm
    rw [e'] at e; injection e with e; injection e with e; omega
  refine ⟨by simp [h.1], fun k hk h2 => ?_⟩
  rcases (show k < cs.length ∨ k = cs.length by simp at hk; omega) with hkc | rfl
  · obtain ⟨A', m', c', h3, h4, h5⟩ := h.2 k hkc (by have := h.1; omega)
    refine ⟨A', m', c', by rw [List.getElem_append_left hkc]; exact h3, ?_, fun h0 d o e => hown d (hlt h4 h0 d o e) (h5 h0 d o e)⟩
    rw [List.getElem_append_left (by have := h.1; omega)]
    exact h4.gr hgr h5
  · refine ⟨A, m, c, by simp, ?_, fun h0 d o e => hown d (hlt p h0 d o e) (hp h0 d o e)⟩
    have := h.1
    rw [List.getElem_append_right (by omega)]
    simp only [this, Nat.sub_self, List.getElem_cons_zero]
    exact p.gr hgr hp
theorem RwR.mr {w : World} {B : Nat} {s : Value} {cs : List Value} {RR : List (List (Bool × List Int))} (h : Gm w B s cs) (r : RwR w s cs RR) (hn : cs.length ≤ 1000) : ∃ A c, s = .slice A cs.length c ∧ Mr w A cs.length c RR := by
  rcases h with ⟨rfl, rfl⟩ | ⟨g, cap, rfl, hg, ho⟩
  · exact ⟨none, 0, rfl, r.1.symm, Nat.le_refl _, by simp, fun h => absurd h (by simp)⟩
  · have hlt := ho.lt
    obtain ⟨cur, h1, h2, h3, h4, h5, h6, h7⟩ := ho
    refine ⟨_, cap, rfl, r.1.symm, h2, by omega, fun _ => ⟨g, 0, rfl, hlt, fun k hk => ?_⟩⟩
    have hk2 : k < cs.length := by rw [r.1]; exact hk
    obtain ⟨A', m, c', e, p, _⟩ := r.2 k hk2 hk
    refine ⟨A', m, c', ?_, p⟩
    rw [Nat.zero_add, cell_of_row w g k cur _ (0, 0) h1, ← e]
    have := congrArg (fun l => l[k]?) h5
    simp only [List.getElem?_take, if_pos hk2] at this
    simpa [hk2] using this
/-- A list as it stood, in memory of its own. -/
def OutRB (w : World) (R : List (Bool × List Int)) (e : Ending) (w' : World) : Prop := ∃ A n c, e = .returned (.slice A n c) ∧ Pr w' A n c R ∧ (∀ k, (Value.slice A n c).ownBlock = some k → w.heap.size ≤ k) ∧ Below w.heap.size w w'
theorem DoOwnB_any {A : Option Addr} {n c : Nat} {R : List (Bool × List Int)} {w : World} (h : Pr w A n c R) (hn : n ≤ 1000) (hJ : ∀ r ∈ R, r.2.length ≤ 100000) :
    Calls Tryz.prog 14 #[.slice A n c] w (OutRB w R) := by
  have hl := h.len
  have H := Lib.hid h; have HL := Lib.hid hl; have HJ := Lib.hid hJ
  clear h hl hJ
  go_enter Tryz.func14, Tryz.ntmps14
  go_upto_region 2 with fail
  refine al1 fun v1 hb x_o => ?_
  have gz : GzR v1 w.heap.size 0 (.slice (some ⟨w.heap.size, 0, none⟩) 0 0) (R.take 0) := gq_new x_o (Nat.le_refl _)
  clear x_o
  go_wp2_with fail
  go_loopw [3, 4] (fun sv kv wr => ∃ (i : Nat) (t : Value), t = sv ∧ i ≤ n ∧ kv = .int .i64 (i : Int) ∧ GzR wr w.heap.size 0 t (R.take i) ∧ Below w.heap.size w wr) (fun _ kv _ => n - (intOf kv).toNat)
  case atStart => exact ⟨0, _, rfl, by omega, rfl, gz, hb⟩
  case round =>
    clear gz hb
    obtain ⟨i, sv, rfl, hi, rfl, gz, hb⟩ := hrel
    rcases (show n = i ∨ i < n by omega) with hin | hin
    · subst hin
      rw [List.take_of_length_le (by rw [HL.out]; omega)] at gz
      have hB : ∀ k, sv.ownBlock = some k → w.heap.size ≤ k := fun k hk => (gz.lt hk).1
      obtain ⟨A5, c5, rfl, p⟩ := gz.pr (by rw [HL.out]; omega)
      rw [HL.out] at hB
      have HB := Lib.hid hB; clear hB
      rw [HL.out] at p
      rw [HL.out]
      clear gz
      go_wp2
      go_ret
      exact ⟨_, _, _, rfl, p, HB.out, hb⟩
    · have hil : i < R.length := by rw [HL.out]; exact hin
      obtain ⟨d, o, A5, n5, c5, rfl, x_e, ze⟩ := (H.out.keep hb).ec hin
      have htk : Hid (R.take i ++ [R[i]] = R.take (i + 1)) := Lib.hid (by rw [List.take_add_one, List.getElem?_eq_getElem hil]; rfl)
      have hln : (R.take i).length ≤ 1000 := by rw [List.length_take]; omega
      have hn5 : n5 ≤ 100000 := by rw [← ze.len]; exact HJ.out _ (List.getElem_mem hil)
      have hlim := ze.2.2.2.1
      have hn5l := ze.len
      have hss := hb.size
      generalize R[i] = r at *
      generalize R.take i = m at *
      obtain ⟨b, q⟩ := r
      dsimp only at *
      have q_e := x_e.al
      have HLM := Lib.hid hlim; have HNL := Lib.hid hn5l
      clear hlim hn5l
      have q_e2 := (x_e.alloc (.cells #[] 69)).al
      go_upto_region 6 with (at_builtin; refine wp_all64 rfl (.tmp 13) (.tmp 18) rfl wr.heap.size _ [] rfl (Ow.empty wr wr.heap.size (Nat.le_refl _)) A5 n5 c5 _ _ rfl (ze.alloc (Nat.le_refl _) _) (by simp) (by omega) (by simp) ?_; intro v6 w6 ho6 hb6)
      rw [List.nil_append] at ho6
      obtain ⟨A6, n6, c6, rfl, z6⟩ := ho6.rd HLM.out (by rw [HNL.out]; omega)
      replace hb6 := ((Below.refl wr.heap.size wr).alloc (Nat.le_refl _) _).trans hb6
      replace x_e := x_e.keep hb6
      replace gz := gz.keep hb6
      replace hb := bthen hb hb6
      replace hss := hb.size
      replace q_e := x_e.al
      clear hb6 ze ho6 q_e2
      go_wp2_with (at_builtin; refine wp_pushR (V := w6) (X := (b, q)) rfl _ _ rfl rfl gz hln hss z6 rfl ?_; intro s' w' hpu)
      have hgz := hpu.1
      rw [htk.out] at hgz
      have hb2 := Gr.below2 hb hss gz hpu.2.1 (Nat.le_refl _)
      exact ⟨⟨i + 1, _, rfl, by omega, by go_num, hgz, hb2⟩, by simp [intOf]; omega⟩
/-- What the document's Own makes: a slice in memory of its own, its rows as they were. -/
def OwP (w : World) (RR : List (List (Bool × List Int))) (e : Ending) (w' : World) : Prop := ∃ s cs, e = .returned s ∧ Gm w' w.heap.size s cs ∧ RwR w' s cs RR ∧ Below w.heap.size w w'
set_option maxHeartbeats 1000000 in
theorem MOwn_any {A : Option Addr} {n c J : Nat} {RR : List (List (Bool × List Int))} {w : World} (h : Mr w A n c RR) (hn : n ≤ 1000) (hm : ∀ R ∈ RR, R.length ≤ 1000) (hJ : Rl RR J) (hJ2 : J ≤ 100000) :
    Calls Tryz.prog 27 #[.slice A n c] w (OwP w RR) := by
  have hl := h.len
  have H := Lib.hid h; have HL := Lib.hid hl; have HJ := Lib.hid hJ; have HM := Lib.hid hm
  clear h hl hJ hm
  go_enter Tryz.func27, Tryz.ntmps27
  go_upto_region 2 with fail
  refine al1 fun v1 hb x_o => ?_
  have gm : Gm v1 w.heap.size (.slice (some ⟨w.heap.size, 0, none⟩) 0 0) [] := gm_new x_o (Nat.le_refl _)
  have r0 : RwR v1 (.slice (some ⟨w.heap.size, 0, none⟩) 0 0) [] (RR.take 0) := RwR.nil _ _
  clear x_o
  go_wp2_with fail
  go_loopw [3, 4] (fun sv kv wr => ∃ (t : Value) (wo : World) (i : Nat) (cs : List Value), t = sv ∧ wo = wr ∧ i ≤ n ∧ kv = .int .i64 (i : Int) ∧ Gm wo w.heap.size t cs ∧ RwR wo t cs (RR.take i) ∧ Below w.heap.size w wo) (fun _ kv _ => n - (intOf kv).toNat)
  case atStart => exact ⟨_, _, 0, [], rfl, rfl, by omega, rfl, gm, r0, hb⟩
  case round =>
    clear gm r0 hb
    obtain ⟨t, wo, i, cs, rfl, rfl, hi, rfl, gm, r, hb⟩ := hrel
    rcases (show n = i ∨ i < n by omega) with hin | hin
    · subst hin
      rw [List.take_of_length_le (by rw [HL.out]; omega)] at r
      go_wp2
      go_ret
      exact ⟨t, cs, rfl, gm, r, hb⟩
    · have hil : i < RR.length := by rw [HL.out]; exact hin
      obtain ⟨d, o, A5, n5, c5, rfl, x_e, p⟩ := (H.out.keep hb).row hin
      have htk : Hid (RR.take i ++ [RR[i]] = RR.take (i + 1)) := Lib.hid (by rw [List.take_add_one, List.getElem?_eq_getElem hil]; rfl)
      have hcl : cs.length ≤ 1000 := by rw [r.1, List.length_take]; omega
      have hm5 : n5 ≤ 1000 := by rw [← p.len]; exact HM.out _ (List.getElem_mem hil)
      have hj5 : Hid (∀ r ∈ RR[i], r.2.length ≤ 100000) := Lib.hid fun r hr => Nat.le_trans (HJ.out _ (List.getElem_mem hil) r hr) hJ2
      generalize RR[i] = R at *
      generalize RR.take i = RT at *
      have q_e := x_e.al
      go_wp2_with fail
      with_reducible refine (DoOwnB_any p hm5 hj5.out).mono ?_
      rintro e v2 ⟨A6, n6, c6, rfl, p6, hB6, hb1⟩
      have hold : Hid (0 < n6 → ∀ d o, A6 = some ⟨d, o, none⟩ → t.ownBlock ≠ some d) := Lib.hid fun _ d o e h => by
        have h1 := (gm.lt h).2
        have h2 := hB6 d (by rw [e]; rfl)
        omega
      replace gm := gm.keep hb1; replace r := r.keep hb1; replace hb := bthen hb hb1
      clear hb1 x_e q_e p hB6
      go_wp2_with (at_builtin; refine wp_pushM rfl _ _ rfl rfl gm hcl hb.size rfl ?_; intro s' w' hpm)
      have r2 := r.push p6 hold.out hpm
      rw [htk.out] at r2
      have hb2 := Gr.belowM hb hb.size gm hpm.2.1 (Nat.le_refl _)
      exact ⟨⟨s', w', i + 1, _, rfl, rfl, by omega, by go_num, hpm.1, r2, hb2⟩, by simp [intOf]; omega⟩
end Go.Proofs.YtbpamkpclofnbaaGreat
