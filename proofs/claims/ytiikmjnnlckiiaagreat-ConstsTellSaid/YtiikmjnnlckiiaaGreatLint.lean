/-
 Balls as values, boxed in memory.
-/
import Derived.Test.YtiikmjnnlckiiaaGreatPg
namespace Go.Proofs.YtiikmjnnlckiiaaGreat
open Go.RowKit
set_option linter.unusedVariables false

/-- Block g holds such a value. -/
def Lx (w : World) (g : Nat) (b : Bool) (A : Option Addr) (n : Nat) (c : Nat) (p : Bool) (B : Option Addr) (m : Nat) (d : Nat) (e : Int) : Prop := w.heap[g]? = some (.cells #[.bool b, .slice A n c, .bool p, .slice B m d, .int .i64 e] 27 (0, 0))
section
variable {w w' w0 : World} {g h H : Nat} {b : Bool} {A : Option Addr} {n : Nat} {c : Nat} {p : Bool} {B : Option Addr} {m : Nat} {d : Nat} {e : Int} {b' : Bool} {A' : Option Addr} {n' : Nat} {c' : Nat} {p' : Bool} {B' : Option Addr} {m' : Nat} {d' : Nat} {e' : Int}
theorem Lx.lt (h : Lx w g b A n c p B m d e) : g < w.heap.size := by
 rcases Nat.lt_or_ge g w.heap.size with hlt | hge
 ·exact hlt
 ·unfold Lx at h; rw [Array.getElem?_eq_none hge] at h; cases h
theorem Lx.c0 (h : Lx w g b A n c p B m d e) : w.cell? ⟨g, 0, none⟩ = some (.bool b) := by rw [cell_of_row w g 0 _ _ (0, 0) h]; rfl
theorem Lx.c1 (h : Lx w g b A n c p B m d e) : w.cell? ⟨g, 1, none⟩ = some (.slice A n c) := by rw [cell_of_row w g 1 _ _ (0, 0) h]; rfl
theorem Lx.c2 (h : Lx w g b A n c p B m d e) : w.cell? ⟨g, 2, none⟩ = some (.bool p) := by rw [cell_of_row w g 2 _ _ (0, 0) h]; rfl
theorem Lx.c3 (h : Lx w g b A n c p B m d e) : w.cell? ⟨g, 3, none⟩ = some (.slice B m d) := by rw [cell_of_row w g 3 _ _ (0, 0) h]; rfl
theorem Lx.c4 (h : Lx w g b A n c p B m d e) : w.cell? ⟨g, 4, none⟩ = some (.int .i64 e) := by rw [cell_of_row w g 4 _ _ (0, 0) h]; rfl
theorem Lx.fr (h : Lx w g b A n c p B m d e) (i : Nat) : w.frozen? ⟨g, i, none⟩ = false := by
 unfold Lx at h
 simp [World.frozen?, h]
theorem Lx.new (w : World) (b : Bool) (A : Option Addr) (n : Nat) (c : Nat) (p : Bool) (B : Option Addr) (m : Nat) (d : Nat) (e : Int) : Lx (w.alloc (.cells #[.bool b, .slice A n c, .bool p, .slice B m d, .int .i64 e] 27)) w.heap.size b A n c p B m d e := heap_alloc_new w _
theorem Lx.alloc (h : Lx w g b A n c p B m d e) (o : Obj) : Lx (w.alloc o) g b A n c p B m d e := (Below.heap_alloc w o g h.lt).trans h
theorem Lx.below {I : Nat} (h : Lx w g b A n c p B m d e) (hb : Below I w w') (hg : g < I) : Lx w' g b A n c p B m d e := (hb.block g hg).trans h
theorem Lx.keep (h : Lx w g b A n c p B m d e) (hb : Below w.heap.size w w') : Lx w' g b A n c p B m d e := h.below hb h.lt
instance Lx.mv {v w : World} : Mv (Lx v g b A n c p B m d e) v w (Lx w g b A n c p B m d e) := ⟨fun h hb => Lx.keep h hb⟩
theorem Lx.al {w : World} {g : Nat} {b : Bool} {A : Option Addr} {n : Nat} {c : Nat} {p : Bool} {B : Option Addr} {m : Nat} {d : Nat} {e : Int} (h : Lx w g b A n c p B m d e) : w.cell? ⟨g, 0, none⟩ = some (.bool b) ∧ w.frozen? ⟨g, 0, none⟩ = false ∧ w.cell? ⟨g, 1, none⟩ = some (.slice A n c) ∧ w.frozen? ⟨g, 1, none⟩ = false ∧ w.cell? ⟨g, 2, none⟩ = some (.bool p) ∧ w.frozen? ⟨g, 2, none⟩ = false ∧ w.cell? ⟨g, 3, none⟩ = some (.slice B m d) ∧ w.frozen? ⟨g, 3, none⟩ = false ∧ w.cell? ⟨g, 4, none⟩ = some (.int .i64 e) ∧ w.frozen? ⟨g, 4, none⟩ = false := ⟨h.c0, h.fr 0, h.c1, h.fr 1, h.c2, h.fr 2, h.c3, h.fr 3, h.c4, h.fr 4⟩
theorem Lx.far (h : Lx w g b A n c p B m d e) {z : Addr} (hp : g ≠ z.block) (u : Value) : Lx (w.setCell z u) g b A n c p B m d e := (Below.heap_setCell w z u g hp).trans h
end
section
variable {w w0 : World} {g h I : Nat} {b : Bool} {A : Option Addr} {n : Nat} {c : Nat} {p : Bool} {B : Option Addr} {m : Nat} {d : Nat} {e : Int} {b' : Bool} {A' : Option Addr} {n' : Nat} {c' : Nat} {p' : Bool} {B' : Option Addr} {m' : Nat} {d' : Nat} {e' : Int}
theorem Lx.put (x : Lx w g b A n c p B m d e) (b' : Bool) (A' : Option Addr) (n' : Nat) (c' : Nat) (p' : Bool) (B' : Option Addr) (m' : Nat) (d' : Nat) (e' : Int) : Lx (((((w.setCell ⟨g, 0, none⟩ (.bool b')).setCell ⟨g, 1, none⟩ (.slice A' n' c')).setCell ⟨g, 2, none⟩ (.bool p')).setCell ⟨g, 3, none⟩ (.slice B' m' d')).setCell ⟨g, 4, none⟩ (.int .i64 e')) g b' A' n' c' p' B' m' d' e' := by
 unfold Lx at x ⊢
 simp [World.setCell, Array.getElem?_modify, x]
theorem put_belowL (hb : Below I w0 w) (hg : I ≤ g) (u0 u1 u2 u3 u4 : Value) : Below I w0 (((((w.setCell ⟨g, 0, none⟩ u0).setCell ⟨g, 1, none⟩ u1).setCell ⟨g, 2, none⟩ u2).setCell ⟨g, 3, none⟩ u3).setCell ⟨g, 4, none⟩ u4) := (((((hb.setCell hg _).setCell hg _).setCell hg _).setCell hg _).setCell hg _)
theorem Bx.asideL {bb : Bool} {AA : Option Addr} {nn cc : Nat} (x : Bx w h bb AA nn cc) (hg : h ≠ g) : Bx (((((w.setCell ⟨g, 0, none⟩ (.bool b')).setCell ⟨g, 1, none⟩ (.slice A' n' c')).setCell ⟨g, 2, none⟩ (.bool p')).setCell ⟨g, 3, none⟩ (.slice B' m' d')).setCell ⟨g, 4, none⟩ (.int .i64 e')) h bb AA nn cc := (((((x.far hg _).far hg _).far hg _).far hg _).far hg _)
theorem Dx.asideL {bb : Bool} {AA : Option Addr} {nn cc : Nat} {ee : Int} (x : Dx w h bb AA nn cc ee) (hg : h ≠ g) : Dx (((((w.setCell ⟨g, 0, none⟩ (.bool b')).setCell ⟨g, 1, none⟩ (.slice A' n' c')).setCell ⟨g, 2, none⟩ (.bool p')).setCell ⟨g, 3, none⟩ (.slice B' m' d')).setCell ⟨g, 4, none⟩ (.int .i64 e')) h bb AA nn cc ee := (((((x.far hg _).far hg _).far hg _).far hg _).far hg _)
theorem Lx.cell_put {z : Addr} {u : Value} (x : Lx w g b A n c p B m d e) (hub : ∀ y, u ≠ .bool y) (hus : ∀ y, (∀ n c, u ≠ .slice y n c)) (hui : ∀ y, u ≠ .int .i64 y) (hz : w.cell? z = some u) : (((((w.setCell ⟨g, 0, none⟩ (.bool b')).setCell ⟨g, 1, none⟩ (.slice A' n' c')).setCell ⟨g, 2, none⟩ (.bool p')).setCell ⟨g, 3, none⟩ (.slice B' m' d')).setCell ⟨g, 4, none⟩ (.int .i64 e')).cell? z = some u := by
 have e0 : z ≠ ⟨g, 0, none⟩ := fun e => by
  rw [e, x.c0] at hz
  exact hub _ (Option.some.inj hz).symm
 have e1 : z ≠ ⟨g, 1, none⟩ := fun e => by
  rw [e, x.c1] at hz
  exact hus _ _ _ (Option.some.inj hz).symm
 have e2 : z ≠ ⟨g, 2, none⟩ := fun e => by
  rw [e, x.c2] at hz
  exact hub _ (Option.some.inj hz).symm
 have e3 : z ≠ ⟨g, 3, none⟩ := fun e => by
  rw [e, x.c3] at hz
  exact hus _ _ _ (Option.some.inj hz).symm
 have e4 : z ≠ ⟨g, 4, none⟩ := fun e => by
  rw [e, x.c4] at hz
  exact hui _ (Option.some.inj hz).symm
 rw [World.cell?_setCell_other _ _ _ _ e4.symm, World.cell?_setCell_other _ _ _ _ e3.symm, World.cell?_setCell_other _ _ _ _ e2.symm, World.cell?_setCell_other _ _ _ _ e1.symm, World.cell?_setCell_other _ _ _ _ e0.symm]
 exact hz
theorem Rd.sputL {AA : Option Addr} {nn cc : Nat} {l : List Int} (hr : Rd w w.heap.size AA nn cc l) (x : Lx w g b A n c p B m d e) : Rd (((((w.setCell ⟨g, 0, none⟩ (.bool b')).setCell ⟨g, 1, none⟩ (.slice A' n' c')).setCell ⟨g, 2, none⟩ (.bool p')).setCell ⟨g, 3, none⟩ (.slice B' m' d')).setCell ⟨g, 4, none⟩ (.int .i64 e')) (((((w.setCell ⟨g, 0, none⟩ (.bool b')).setCell ⟨g, 1, none⟩ (.slice A' n' c')).setCell ⟨g, 2, none⟩ (.bool p')).setCell ⟨g, 3, none⟩ (.slice B' m' d')).setCell ⟨g, 4, none⟩ (.int .i64 e')).heap.size AA nn cc l := by
 refine Rd.more (B := w.heap.size) ?_ (by simp [World.setCell])
 refine ⟨hr.1, hr.2.1, hr.2.2.1, hr.2.2.2.1, fun hn => ?_⟩
 obtain ⟨d, off, e, hd, hc⟩ := hr.at_ hn
 exact ⟨d, off, e, hd, fun k hk => x.cell_put (fun _ h => by cases h) (fun _ _ _ h => by cases h) (fun _ h => by cases h) (hc k hk)⟩
theorem Zr.putL {bb : Bool} {AA : Option Addr} {nn cc k : Nat} {X : Int} (hr : Zr w bb AA nn cc X k) (x : Lx w g b A n c p B m d e) : Zr (((((w.setCell ⟨g, 0, none⟩ (.bool b')).setCell ⟨g, 1, none⟩ (.slice A' n' c')).setCell ⟨g, 2, none⟩ (.bool p')).setCell ⟨g, 3, none⟩ (.slice B' m' d')).setCell ⟨g, 4, none⟩ (.int .i64 e')) bb AA nn cc X k := by
 obtain ⟨l, h1, h2, h3⟩ := hr
 exact ⟨l, h1.sputL x, h2, h3⟩
theorem Zn.putL {AA : Option Addr} {nn cc k : Nat} {X : Int} (hr : Zn w AA nn cc X k) (x : Lx w g b A n c p B m d e) : Zn (((((w.setCell ⟨g, 0, none⟩ (.bool b')).setCell ⟨g, 1, none⟩ (.slice A' n' c')).setCell ⟨g, 2, none⟩ (.bool p')).setCell ⟨g, 3, none⟩ (.slice B' m' d')).setCell ⟨g, 4, none⟩ (.int .i64 e')) AA nn cc X k := ⟨hr.1.sputL x, hr.2⟩
end
/-- Block g holds such a value. -/
def Ex (w : World) (g : Nat) (b : Bool) (A : Option Addr) (n : Nat) (c : Nat) (p : Bool) (B : Option Addr) (m : Nat) (d : Nat) : Prop := w.heap[g]? = some (.cells #[.bool b, .slice A n c, .bool p, .slice B m d] 111 (0, 0))
section
variable {w w' w0 : World} {g h H : Nat} {b : Bool} {A : Option Addr} {n : Nat} {c : Nat} {p : Bool} {B : Option Addr} {m : Nat} {d : Nat} {b' : Bool} {A' : Option Addr} {n' : Nat} {c' : Nat} {p' : Bool} {B' : Option Addr} {m' : Nat} {d' : Nat}
theorem Ex.lt (h : Ex w g b A n c p B m d) : g < w.heap.size := by
 rcases Nat.lt_or_ge g w.heap.size with hlt | hge
 ·exact hlt
 ·unfold Ex at h; rw [Array.getElem?_eq_none hge] at h; cases h
theorem Ex.c0 (h : Ex w g b A n c p B m d) : w.cell? ⟨g, 0, none⟩ = some (.bool b) := by rw [cell_of_row w g 0 _ _ (0, 0) h]; rfl
theorem Ex.c1 (h : Ex w g b A n c p B m d) : w.cell? ⟨g, 1, none⟩ = some (.slice A n c) := by rw [cell_of_row w g 1 _ _ (0, 0) h]; rfl
theorem Ex.c2 (h : Ex w g b A n c p B m d) : w.cell? ⟨g, 2, none⟩ = some (.bool p) := by rw [cell_of_row w g 2 _ _ (0, 0) h]; rfl
theorem Ex.c3 (h : Ex w g b A n c p B m d) : w.cell? ⟨g, 3, none⟩ = some (.slice B m d) := by rw [cell_of_row w g 3 _ _ (0, 0) h]; rfl
theorem Ex.fr (h : Ex w g b A n c p B m d) (i : Nat) : w.frozen? ⟨g, i, none⟩ = false := by
 unfold Ex at h
 simp [World.frozen?, h]
theorem Ex.new (w : World) (b : Bool) (A : Option Addr) (n : Nat) (c : Nat) (p : Bool) (B : Option Addr) (m : Nat) (d : Nat) : Ex (w.alloc (.cells #[.bool b, .slice A n c, .bool p, .slice B m d] 111)) w.heap.size b A n c p B m d := heap_alloc_new w _
theorem Ex.below {I : Nat} (h : Ex w g b A n c p B m d) (hb : Below I w w') (hg : g < I) : Ex w' g b A n c p B m d := (hb.block g hg).trans h
theorem Ex.keep (h : Ex w g b A n c p B m d) (hb : Below w.heap.size w w') : Ex w' g b A n c p B m d := h.below hb h.lt
instance Ex.mv {v w : World} : Mv (Ex v g b A n c p B m d) v w (Ex w g b A n c p B m d) := ⟨fun h hb => Ex.keep h hb⟩
theorem Ex.al {w : World} {g : Nat} {b : Bool} {A : Option Addr} {n : Nat} {c : Nat} {p : Bool} {B : Option Addr} {m : Nat} {d : Nat} (h : Ex w g b A n c p B m d) : w.cell? ⟨g, 0, none⟩ = some (.bool b) ∧ w.frozen? ⟨g, 0, none⟩ = false ∧ w.cell? ⟨g, 1, none⟩ = some (.slice A n c) ∧ w.frozen? ⟨g, 1, none⟩ = false ∧ w.cell? ⟨g, 2, none⟩ = some (.bool p) ∧ w.frozen? ⟨g, 2, none⟩ = false ∧ w.cell? ⟨g, 3, none⟩ = some (.slice B m d) ∧ w.frozen? ⟨g, 3, none⟩ = false := ⟨h.c0, h.fr 0, h.c1, h.fr 1, h.c2, h.fr 2, h.c3, h.fr 3⟩
theorem Ex.far (h : Ex w g b A n c p B m d) {z : Addr} (hp : g ≠ z.block) (u : Value) : Ex (w.setCell z u) g b A n c p B m d := (Below.heap_setCell w z u g hp).trans h
end
section
variable {w w0 : World} {g h I : Nat} {b : Bool} {A : Option Addr} {n : Nat} {c : Nat} {p : Bool} {B : Option Addr} {m : Nat} {d : Nat} {b' : Bool} {A' : Option Addr} {n' : Nat} {c' : Nat} {p' : Bool} {B' : Option Addr} {m' : Nat} {d' : Nat}
end
section
variable {w : World} {g h : Nat} {b p b' p' : Bool} {A B A' B' : Option Addr} {n c m d n' c' m' d' : Nat} {e e' : Int}
theorem Lx.aside (x : Lx w h b A n c p B m d e) (hg : h ≠ g) : Lx ((w.setCell ⟨g, 0, none⟩ (.bool b')).setCell ⟨g, 1, none⟩ (.slice A' n' c')) h b A n c p B m d e := ((x.far hg _).far hg _)
theorem Lx.asideL (x : Lx w h b A n c p B m d e) (hg : h ≠ g) : Lx (((((w.setCell ⟨g, 0, none⟩ (.bool b')).setCell ⟨g, 1, none⟩ (.slice A' n' c')).setCell ⟨g, 2, none⟩ (.bool p')).setCell ⟨g, 3, none⟩ (.slice B' m' d')).setCell ⟨g, 4, none⟩ (.int .i64 e')) h b A n c p B m d e := (((((x.far hg _).far hg _).far hg _).far hg _).far hg _)
theorem Ex.aside (x : Ex w h b A n c p B m d) (hg : h ≠ g) : Ex ((w.setCell ⟨g, 0, none⟩ (.bool b')).setCell ⟨g, 1, none⟩ (.slice A' n' c')) h b A n c p B m d := ((x.far hg _).far hg _)
end
/-- What a function of balls hands back, and its error number 0. -/
def OuL (w : World) (X Y q : Int) (k : Nat) (e : Ending) (w' : World) : Prop := ∃ A n c A2 n2 c2, e = .returned (.tuple #[.agg #[.bool (ngB X), .slice A n c, .bool (ngB Y), .slice A2 n2 c2, .int .i64 q], .int .i64 0]) ∧ Zn w' A n c X k ∧ Zn w' A2 n2 c2 Y k ∧ Below w.heap.size w w'
/-- An error, and the zero ball. -/
def ErrL (w : World) (x : Int) (e : Ending) (w' : World) : Prop := e = .returned (.tuple #[.agg #[.bool false, .slice none 0 0, .bool false, .slice none 0 0, .int .i64 0], .int .i64 x]) ∧ Below w.heap.size w w'
theorem dec_no {p : Prop} [Decidable p] (h : ¬ p) : decide p = false := by simp only [decide_eq_false_iff_not]; exact h
/-- Is a ball valid? -/
def rB (X Y q : Int) : Bool := decide (0 ≤ q ∧ q ≤ 2048 ∧ X ≤ Y)
theorem rB_iff {X Y q : Int} : rB X Y q = true ↔ (0 ≤ q ∧ q ≤ 2048 ∧ X ≤ Y) := by unfold rB; simp
theorem rB_yes {X Y q : Int} (h : 0 ≤ q ∧ q ≤ 2048 ∧ X ≤ Y) : rB X Y q = true := rB_iff.2 h
theorem rB_no {X Y q : Int} (h : ¬ (0 ≤ q ∧ q ≤ 2048 ∧ X ≤ Y)) : rB X Y q = false := by unfold rB; simp only [decide_eq_false_iff_not]; exact h
end Go.Proofs.YtiikmjnnlckiiaaGreat
