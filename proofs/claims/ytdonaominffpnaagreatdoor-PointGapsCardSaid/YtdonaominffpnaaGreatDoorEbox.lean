/-
 elem: an enclosure boxed in memory.
-/
import Derived.Test.YtdonaominffpnaaGreatDoorPg
namespace Go.Proofs.YtdonaominffpnaaGreatDoor
variable {A AA B : Option Addr} {I c cc d g m n nn : Nat} {X Y q : Int} {b bb p : Bool} {w : World}
set_option linter.unusedVariables false
open Go.RowKit
def Lx (w : World) (g : Nat) (b : Bool) (A : Option Addr) (n : Nat) (c : Nat) (p : Bool) (B : Option Addr) (m : Nat) (d : Nat) (e : Int) : Prop := w.heap[g]? = some (.cells #[.bool b, .slice A n c, .bool p, .slice B m d, .int .i64 e] 26 (0, 0))
section
variable {w w' w0 : World} {g h H : Nat} {b : Bool} {A : Option Addr} {n : Nat} {c : Nat} {p : Bool} {B : Option Addr} {m : Nat} {d : Nat} {e : Int} {b' : Bool} {A' : Option Addr} {n' : Nat} {c' : Nat} {p' : Bool} {B' : Option Addr} {m' : Nat} {d' : Nat} {e' : Int}
theorem Lx.lt (h : Lx w g b A n c p B m d e) : g < w.heap.size := by
 rcases Nat.lt_or_ge g w.heap.size with hlt | hge
 ·exact hlt
 ·unfold Lx at h; rw [Array.getElem?_eq_none hge] at h; cases h
theorem Lx.c0 (h : Lx w g b A n c p B m d e) : w.cell? ⟨g, 0, none⟩ = some (.bool b) := by rw [cell_of_row w g 0 _ _ (0, 0) h]; rfl
theorem Lx.c1 (h : Lx w g b A n c p B m d e) : w.cell? ⟨g, 1, none⟩ = some (.slice A n c) := by rw [cell_of_row w g 1 _ _ (0, 0) h]; rfl
theorem Lx.c2 (h : Lx w g b A n c p B m d e) : w.cell? ⟨g, 2, none⟩ = some (.bool p) := by rw [cell_of_row w g 2 _ _ (0, 0) h]; rfl
theorem Lx.c3 (h : Lx w g b A n c p B m d e) : w.cell? ⟨g, 3, none⟩ = some (.slice B m d) := by rw [cell_of_row w g 3 _ _ (0, 0) h]; rfl
theorem Lx.c4 (h : Lx w g b A n c p B m d e) : w.cell? ⟨g, 4, none⟩ = some (.int .i64 e) := by rw [cell_of_row w g 4 _ _ (0, 0) h]; rfl
theorem Lx.fr (h : Lx w g b A n c p B m d e) (i : Nat) : w.frozen? ⟨g, i, none⟩ = false := by
 unfold Lx at h
 simp [World.frozen?, h]
theorem Lx.new (w : World) (b : Bool) (A : Option Addr) (n : Nat) (c : Nat) (p : Bool) (B : Option Addr) (m : Nat) (d : Nat) (e : Int) : Lx (w.alloc (.cells #[.bool b, .slice A n c, .bool p, .slice B m d, .int .i64 e] 26)) w.heap.size b A n c p B m d e := heap_alloc_new w _
theorem Lx.alloc (h : Lx w g b A n c p B m d e) (o : Obj) : Lx (w.alloc o) g b A n c p B m d e := (Below.heap_alloc w o g h.lt).trans h
theorem Lx.drew (h : Lx w g b A n c p B m d e) : Lx w.drew g b A n c p B m d e := h
theorem Lx.below (h : Lx w g b A n c p B m d e) (hb : Below I w w') (hg : g < I) : Lx w' g b A n c p B m d e := (hb.block g hg).trans h
theorem Lx.keep (h : Lx w g b A n c p B m d e) (hb : Below w.heap.size w w') : Lx w' g b A n c p B m d e := h.below hb h.lt
instance Lx.mv {v w : World} : Mv (Lx v g b A n c p B m d e) v w (Lx w g b A n c p B m d e) := ⟨fun h hb => Lx.keep h hb⟩
theorem Lx.al {e : Int} (h : Lx w g b A n c p B m d e) : w.cell? ⟨g, 0, none⟩ = some (.bool b) ∧ w.frozen? ⟨g, 0, none⟩ = false ∧ w.cell? ⟨g, 1, none⟩ = some (.slice A n c) ∧ w.frozen? ⟨g, 1, none⟩ = false ∧ w.cell? ⟨g, 2, none⟩ = some (.bool p) ∧ w.frozen? ⟨g, 2, none⟩ = false ∧ w.cell? ⟨g, 3, none⟩ = some (.slice B m d) ∧ w.frozen? ⟨g, 3, none⟩ = false ∧ w.cell? ⟨g, 4, none⟩ = some (.int .i64 e) ∧ w.frozen? ⟨g, 4, none⟩ = false := ⟨h.c0, h.fr 0, h.c1, h.fr 1, h.c2, h.fr 2, h.c3, h.fr 3, h.c4, h.fr 4⟩
theorem Lx.far (h : Lx w g b A n c p B m d e) {z : Addr} (hp : g ≠ z.block) (u : Value) : Lx (w.setCell z u) g b A n c p B m d e := (Below.heap_setCell w z u g hp).trans h
end
section
variable {w w0 : World} {g h I : Nat} {b : Bool} {A : Option Addr} {n : Nat} {c : Nat} {p : Bool} {B : Option Addr} {m : Nat} {d : Nat} {e : Int} {b' : Bool} {A' : Option Addr} {n' : Nat} {c' : Nat} {p' : Bool} {B' : Option Addr} {m' : Nat} {d' : Nat} {e' : Int}
theorem Lx.put (x : Lx w g b A n c p B m d e) (b' : Bool) (A' : Option Addr) (n' : Nat) (c' : Nat) (p' : Bool) (B' : Option Addr) (m' : Nat) (d' : Nat) (e' : Int) : Lx (((((w.setCell ⟨g, 0, none⟩ (.bool b')).setCell ⟨g, 1, none⟩ (.slice A' n' c')).setCell ⟨g, 2, none⟩ (.bool p')).setCell ⟨g, 3, none⟩ (.slice B' m' d')).setCell ⟨g, 4, none⟩ (.int .i64 e')) g b' A' n' c' p' B' m' d' e' := by
 unfold Lx at x ⊢
 simp [World.setCell, Array.getElem?_modify, x]
theorem put_belowL (hb : Below I w0 w) (hg : I ≤ g) (u0 u1 u2 u3 u4 : Value) : Below I w0 (((((w.setCell ⟨g, 0, none⟩ u0).setCell ⟨g, 1, none⟩ u1).setCell ⟨g, 2, none⟩ u2).setCell ⟨g, 3, none⟩ u3).setCell ⟨g, 4, none⟩ u4) := (((((hb.setCell hg _).setCell hg _).setCell hg _).setCell hg _).setCell hg _)
theorem Bx.asideL (x : Bx w h bb AA nn cc) (hg : h ≠ g) : Bx (((((w.setCell ⟨g, 0, none⟩ (.bool b')).setCell ⟨g, 1, none⟩ (.slice A' n' c')).setCell ⟨g, 2, none⟩ (.bool p')).setCell ⟨g, 3, none⟩ (.slice B' m' d')).setCell ⟨g, 4, none⟩ (.int .i64 e')) h bb AA nn cc := (((((x.far hg _).far hg _).far hg _).far hg _).far hg _)
theorem Dx.asideL {ee : Int} (x : Dx w h bb AA nn cc ee) (hg : h ≠ g) : Dx (((((w.setCell ⟨g, 0, none⟩ (.bool b')).setCell ⟨g, 1, none⟩ (.slice A' n' c')).setCell ⟨g, 2, none⟩ (.bool p')).setCell ⟨g, 3, none⟩ (.slice B' m' d')).setCell ⟨g, 4, none⟩ (.int .i64 e')) h bb AA nn cc ee := (((((x.far hg _).far hg _).far hg _).far hg _).far hg _)
theorem Lx.cell_put {z : Addr} {u : Value} (x : Lx w g b A n c p B m d e) (hub : ∀ y, u ≠ .bool y) (hus : ∀ y, (∀ n c, u ≠ .slice y n c)) (hui : ∀ y, u ≠ .int .i64 y) (hz : w.cell? z = some u) : (((((w.setCell ⟨g, 0, none⟩ (.bool b')).setCell ⟨g, 1, none⟩ (.slice A' n' c')).setCell ⟨g, 2, none⟩ (.bool p')).setCell ⟨g, 3, none⟩ (.slice B' m' d')).setCell ⟨g, 4, none⟩ (.int .i64 e')).cell? z = some u := by
 have e0 : z ≠ ⟨g, 0, none⟩ := fun e => by
  rw [e, x.c0] at hz
  exact hub _ (Option.some.inj hz).symm
 have e1 : z ≠ ⟨g, 1, none⟩ := fun e => by
  rw [e, x.c1] at hz
  exact hus _ _ _ (Option.some.inj hz).symm
 have e2 : z ≠ ⟨g, 2, none⟩ := fun e => by
  rw [e, x.c2] at hz
  exact hub _ (Option.some.inj hz).symm
 have e3 : z ≠ ⟨g, 3, none⟩ := fun e => by
  rw [e, x.c3] at hz
  exact hus _ _ _ (Option.some.inj hz).symm
 have e4 : z ≠ ⟨g, 4, none⟩ := fun e => by
  rw [e, x.c4] at hz
  exact hui _ (Option.some.inj hz).symm
 rw [World.cell?_setCell_other _ _ _ _ e4.symm, World.cell?_setCell_other _ _ _ _ e3.symm, World.cell?_setCell_other _ _ _ _ e2.symm, World.cell?_setCell_other _ _ _ _ e1.symm, World.cell?_setCell_other _ _ _ _ e0.symm]
 exact hz
theorem Rd.sputL {l : List Int} (hr : Rd w w.heap.size AA nn cc l) (x : Lx w g b A n c p B m d e) : Rd (((((w.setCell ⟨g, 0, none⟩ (.bool b')).setCell ⟨g, 1, none⟩ (.slice A' n' c')).setCell ⟨g, 2, none⟩ (.bool p')).setCell ⟨g, 3, none⟩ (.slice B' m' d')).setCell ⟨g, 4, none⟩ (.int .i64 e')) (((((w.setCell ⟨g, 0, none⟩ (.bool b')).setCell ⟨g, 1, none⟩ (.slice A' n' c')).setCell ⟨g, 2, none⟩ (.bool p')).setCell ⟨g, 3, none⟩ (.slice B' m' d')).setCell ⟨g, 4, none⟩ (.int .i64 e')).heap.size AA nn cc l := by
 refine Rd.more (B := w.heap.size) ?_ (by simp [World.setCell])
 refine ⟨hr.1, hr.2.1, hr.2.2.1, hr.2.2.2.1, fun hn => ?_⟩
 obtain ⟨d, off, e, hd, hc⟩ := hr.at_ hn
 exact ⟨d, off, e, hd, fun k hk => x.cell_put (fun _ h => by cases h) (fun _ _ _ h => by cases h) (fun _ h => by cases h) (hc k hk)⟩
theorem Zn.putL {k : Nat} (hr : Zn w AA nn cc X k) (x : Lx w g b A n c p B m d e) : Zn (((((w.setCell ⟨g, 0, none⟩ (.bool b')).setCell ⟨g, 1, none⟩ (.slice A' n' c')).setCell ⟨g, 2, none⟩ (.bool p')).setCell ⟨g, 3, none⟩ (.slice B' m' d')).setCell ⟨g, 4, none⟩ (.int .i64 e')) AA nn cc X k := ⟨hr.1.sputL x, hr.2⟩
end
def Ex (w : World) (g : Nat) (b : Bool) (A : Option Addr) (n : Nat) (c : Nat) (p : Bool) (B : Option Addr) (m : Nat) (d : Nat) : Prop := w.heap[g]? = some (.cells #[.bool b, .slice A n c, .bool p, .slice B m d] 194 (0, 0))
section
variable {w w' w0 : World} {g h H : Nat} {b : Bool} {A : Option Addr} {n : Nat} {c : Nat} {p : Bool} {B : Option Addr} {m : Nat} {d : Nat} {b' : Bool} {A' : Option Addr} {n' : Nat} {c' : Nat} {p' : Bool} {B' : Option Addr} {m' : Nat} {d' : Nat}
theorem Ex.lt (h : Ex w g b A n c p B m d) : g < w.heap.size := by
 rcases Nat.lt_or_ge g w.heap.size with hlt | hge
 ·exact hlt
 ·unfold Ex at h; rw [Array.getElem?_eq_none hge] at h; cases h
theorem Ex.c0 (h : Ex w g b A n c p B m d) : w.cell? ⟨g, 0, none⟩ = some (.bool b) := by rw [cell_of_row w g 0 _ _ (0, 0) h]; rfl
theorem Ex.c1 (h : Ex w g b A n c p B m d) : w.cell? ⟨g, 1, none⟩ = some (.slice A n c) := by rw [cell_of_row w g 1 _ _ (0, 0) h]; rfl
theorem Ex.c2 (h : Ex w g b A n c p B m d) : w.cell? ⟨g, 2, none⟩ = some (.bool p) := by rw [cell_of_row w g 2 _ _ (0, 0) h]; rfl
theorem Ex.c3 (h : Ex w g b A n c p B m d) : w.cell? ⟨g, 3, none⟩ = some (.slice B m d) := by rw [cell_of_row w g 3 _ _ (0, 0) h]; rfl
theorem Ex.fr (h : Ex w g b A n c p B m d) (i : Nat) : w.frozen? ⟨g, i, none⟩ = false := by
 unfold Ex at h
 simp [World.frozen?, h]
theorem Ex.below (h : Ex w g b A n c p B m d) (hb : Below I w w') (hg : g < I) : Ex w' g b A n c p B m d := (hb.block g hg).trans h
theorem Ex.keep (h : Ex w g b A n c p B m d) (hb : Below w.heap.size w w') : Ex w' g b A n c p B m d := h.below hb h.lt
instance Ex.mv {v w : World} : Mv (Ex v g b A n c p B m d) v w (Ex w g b A n c p B m d) := ⟨fun h hb => Ex.keep h hb⟩
theorem Ex.al (h : Ex w g b A n c p B m d) : w.cell? ⟨g, 0, none⟩ = some (.bool b) ∧ w.frozen? ⟨g, 0, none⟩ = false ∧ w.cell? ⟨g, 1, none⟩ = some (.slice A n c) ∧ w.frozen? ⟨g, 1, none⟩ = false ∧ w.cell? ⟨g, 2, none⟩ = some (.bool p) ∧ w.frozen? ⟨g, 2, none⟩ = false ∧ w.cell? ⟨g, 3, none⟩ = some (.slice B m d) ∧ w.frozen? ⟨g, 3, none⟩ = false := ⟨h.c0, h.fr 0, h.c1, h.fr 1, h.c2, h.fr 2, h.c3, h.fr 3⟩
end
section
variable {w w0 : World} {g h I : Nat} {b : Bool} {A : Option Addr} {n : Nat} {c : Nat} {p : Bool} {B : Option Addr} {m : Nat} {d : Nat} {b' : Bool} {A' : Option Addr} {n' : Nat} {c' : Nat} {p' : Bool} {B' : Option Addr} {m' : Nat} {d' : Nat}
end
section
variable {w : World} {g h : Nat} {b p b' p' : Bool} {A B A' B' : Option Addr} {n c m d n' c' m' d' : Nat} {e e' : Int}
theorem Lx.aside (x : Lx w h b A n c p B m d e) (hg : h ≠ g) : Lx ((w.setCell ⟨g, 0, none⟩ (.bool b')).setCell ⟨g, 1, none⟩ (.slice A' n' c')) h b A n c p B m d e := ((x.far hg _).far hg _)
theorem Lx.asideL (x : Lx w h b A n c p B m d e) (hg : h ≠ g) : Lx (((((w.setCell ⟨g, 0, none⟩ (.bool b')).setCell ⟨g, 1, none⟩ (.slice A' n' c')).setCell ⟨g, 2, none⟩ (.bool p')).setCell ⟨g, 3, none⟩ (.slice B' m' d')).setCell ⟨g, 4, none⟩ (.int .i64 e')) h b A n c p B m d e := (((((x.far hg _).far hg _).far hg _).far hg _).far hg _)
end
def OuL (w : World) (X Y q : Int) (k : Nat) (e : Ending) (w' : World) : Prop := ∃ A n c A2 n2 c2, e = .returned (.tuple #[.agg #[.bool (ngB X), .slice A n c, .bool (ngB Y), .slice A2 n2 c2, .int .i64 q], .int .i64 0]) ∧ Zn w' A n c X k ∧ Zn w' A2 n2 c2 Y k ∧ Below w.heap.size w w'
theorem dec_no {p : Prop} [Decidable p] (h : ¬ p) : decide p = false := by simp only [decide_eq_false_iff_not]; exact h
def rB (X Y q : Int) : Bool := decide (0 ≤ q ∧ q ≤ 2048 ∧ X ≤ Y)
theorem rB_iff : rB X Y q = true ↔ (0 ≤ q ∧ q ≤ 2048 ∧ X ≤ Y) := by unfold rB; simp
theorem rB_yes (h : 0 ≤ q ∧ q ≤ 2048 ∧ X ≤ Y) : rB X Y q = true := rB_iff.2 h
theorem rB_no (h : ¬ (0 ≤ q ∧ q ≤ 2048 ∧ X ≤ Y)) : rB X Y q = false := by unfold rB; simp only [decide_eq_false_iff_not]; exact h
end Go.Proofs.YtdonaominffpnaaGreatDoor
namespace Go.Proofs.YtdonaominffpnaaGreatDoor
variable {A B : Option Addr} {W v w : World} {b p : Bool} {c d f g m n : Nat} {e : Int}
set_option linter.unusedVariables false
open Go.RowKit
structure Sto (W : World) (g : Nat) (v : World) : Prop where
 os : v.os = W.os
 tape : v.tape = W.tape
 output : v.output = W.output
 size : v.heap.size = W.heap.size
 block : ∀ k, k ≠ g → v.heap[k]? = W.heap[k]?
 limb : ∀ (d o : Nat) (x : Int), W.cell? ⟨d, o, none⟩ = some (.int .u64 x) → v.cell? ⟨d, o, none⟩ = W.cell? ⟨d, o, none⟩
def Nl (W : World) (g : Nat) : Prop := ∀ (o : Nat) (x : Int), W.cell? ⟨g, o, none⟩ ≠ some (.int .u64 x)
theorem nl_of {cs : Array Value} {t : TypeId} (h : W.heap[g]? = some (.cells cs t (0, 0))) (hn : ∀ (i : Nat) (y : Int), cs[i]? ≠ some (.int .u64 y)) : Nl W g := fun o x hx => by
 rw [cell_of_row W g o cs t (0, 0) h] at hx
 exact hn o x hx
theorem Sto.refl (W : World) (g : Nat) : Sto W g W := ⟨rfl, rfl, rfl, rfl, fun _ _ => rfl, fun _ _ _ _ => rfl⟩
theorem Sto.set {i : Nat} {u : Value} (s : Sto W g v) (hN : Nl W g) : Sto W g (v.setCell ⟨g, i, none⟩ u) :=
 have hb := (Below.refl 0 v).setCell (p := ⟨g, i, none⟩) (Nat.zero_le g) u
 ⟨hb.os.trans s.os, hb.tape.trans s.tape, hb.output.trans s.output, by rw [← s.size]; simp [World.setCell], fun k hk => (Below.heap_setCell _ _ _ k hk).trans (s.block k hk), fun d o x hx => by
  have hd : d ≠ g := fun e => hN o x (by rw [← e]; exact hx)
  rw [World.cell?_setCell_other _ _ _ _ (fun e => hd (by injection e with e1; exact e1.symm)), s.limb d o x hx]⟩
class Ms (p : Prop) (W v : World) (g : Nat) (s q : outParam Prop) : Prop where
 ms : Sto W g v → s → p → q
section
variable {W v w0 : World} {g h : Nat} {b p : Bool} {A B : Option Addr} {n c m d k : Nat} {e X : Int}
instance : Ms (Bx W h b A n c) W v g (h ≠ g) (Bx v h b A n c) := ⟨fun s hg x => (s.block h hg).trans x⟩
instance : Ms (Dx W h b A n c e) W v g (h ≠ g) (Dx v h b A n c e) := ⟨fun s hg x => (s.block h hg).trans x⟩
instance : Ms (Ex W h b A n c p B m d) W v g (h ≠ g) (Ex v h b A n c p B m d) := ⟨fun s hg x => (s.block h hg).trans x⟩
instance : Ms (Lx W h b A n c p B m d e) W v g (h ≠ g) (Lx v h b A n c p B m d e) := ⟨fun s hg x => (s.block h hg).trans x⟩
instance : Ms (Below w0.heap.size w0 W) W v g (w0.heap.size ≤ g) (Below w0.heap.size w0 v) :=
 ⟨fun s hg x => ⟨s.os.trans x.os, s.tape.trans x.tape, s.output.trans x.output, by rw [s.size]; exact x.size, fun k hk => (s.block k (by omega)).trans (x.block k hk)⟩⟩
theorem Rd.sto {l : List Int} (r : Rd W W.heap.size A n c l) (s : Sto W g v) : Rd v v.heap.size A n c l := by
 rw [s.size]
 refine ⟨r.1, r.2.1, r.2.2.1, r.2.2.2.1, fun hn => ?_⟩
 obtain ⟨b, off, e, hb, hc⟩ := r.at_ hn
 exact ⟨b, off, e, hb, fun k hk => by rw [s.limb _ _ _ (hc k hk)]; exact hc k hk⟩
instance {l : List Int} : Ms (Rd W W.heap.size A n c l) W v g True (Rd v v.heap.size A n c l) := ⟨fun s _ r => r.sto s⟩
instance : Ms (Zr W b A n c X k) W v g True (Zr v b A n c X k) := ⟨fun s _ r => by
 obtain ⟨l, h1, h2, h3⟩ := r
 exact ⟨l, h1.sto s, h2, h3⟩⟩
instance : Ms (Zn W A n c X k) W v g True (Zn v A n c X k) := ⟨fun s _ r => ⟨r.1.sto s, r.2⟩⟩
instance : Mv (Below w0.heap.size w0 W) W v (Below w0.heap.size w0 v) := ⟨fun x y => bthen x y⟩
end
theorem ms2 {p0 s0 q0 p1 s1 q1 : Prop} [Ms p0 W v g s0 q0] [Ms p1 W v g s1 q1] (hs : Sto W g v) (t : s0 ∧ s1) (f0 : p0) (f1 : p1) : q0 ∧ q1 := ⟨Ms.ms hs t.1 f0, Ms.ms hs t.2 f1⟩
theorem ms3 {p0 s0 q0 p1 s1 q1 p2 s2 q2 : Prop} [Ms p0 W v g s0 q0] [Ms p1 W v g s1 q1] [Ms p2 W v g s2 q2] (hs : Sto W g v) (t : s0 ∧ s1 ∧ s2) (f0 : p0) (f1 : p1) (f2 : p2) : q0 ∧ q1 ∧ q2 := ⟨Ms.ms hs t.1 f0, Ms.ms hs t.2.1 f1, Ms.ms hs t.2.2 f2⟩
theorem ms4 {p0 s0 q0 p1 s1 q1 p2 s2 q2 p3 s3 q3 : Prop} [Ms p0 W v g s0 q0] [Ms p1 W v g s1 q1] [Ms p2 W v g s2 q2] [Ms p3 W v g s3 q3] (hs : Sto W g v) (t : s0 ∧ s1 ∧ s2 ∧ s3) (f0 : p0) (f1 : p1) (f2 : p2) (f3 : p3) : q0 ∧ q1 ∧ q2 ∧ q3 := ⟨Ms.ms hs t.1 f0, Ms.ms hs t.2.1 f1, Ms.ms hs t.2.2.1 f2, Ms.ms hs t.2.2.2 f3⟩
theorem ms5 {p0 s0 q0 p1 s1 q1 p2 s2 q2 p3 s3 q3 p4 s4 q4 : Prop} [Ms p0 W v g s0 q0] [Ms p1 W v g s1 q1] [Ms p2 W v g s2 q2] [Ms p3 W v g s3 q3] [Ms p4 W v g s4 q4] (hs : Sto W g v) (t : s0 ∧ s1 ∧ s2 ∧ s3 ∧ s4) (f0 : p0) (f1 : p1) (f2 : p2) (f3 : p3) (f4 : p4) : q0 ∧ q1 ∧ q2 ∧ q3 ∧ q4 := ⟨Ms.ms hs t.1 f0, Ms.ms hs t.2.1 f1, Ms.ms hs t.2.2.1 f2, Ms.ms hs t.2.2.2.1 f3, Ms.ms hs t.2.2.2.2 f4⟩
theorem ms6 {p0 s0 q0 p1 s1 q1 p2 s2 q2 p3 s3 q3 p4 s4 q4 p5 s5 q5 : Prop} [Ms p0 W v g s0 q0] [Ms p1 W v g s1 q1] [Ms p2 W v g s2 q2] [Ms p3 W v g s3 q3] [Ms p4 W v g s4 q4] [Ms p5 W v g s5 q5] (hs : Sto W g v) (t : s0 ∧ s1 ∧ s2 ∧ s3 ∧ s4 ∧ s5) (f0 : p0) (f1 : p1) (f2 : p2) (f3 : p3) (f4 : p4) (f5 : p5) : q0 ∧ q1 ∧ q2 ∧ q3 ∧ q4 ∧ q5 := ⟨Ms.ms hs t.1 f0, Ms.ms hs t.2.1 f1, Ms.ms hs t.2.2.1 f2, Ms.ms hs t.2.2.2.1 f3, Ms.ms hs t.2.2.2.2.1 f4, Ms.ms hs t.2.2.2.2.2 f5⟩
theorem ms7 {p0 s0 q0 p1 s1 q1 p2 s2 q2 p3 s3 q3 p4 s4 q4 p5 s5 q5 p6 s6 q6 : Prop} [Ms p0 W v g s0 q0] [Ms p1 W v g s1 q1] [Ms p2 W v g s2 q2] [Ms p3 W v g s3 q3] [Ms p4 W v g s4 q4] [Ms p5 W v g s5 q5] [Ms p6 W v g s6 q6] (hs : Sto W g v) (t : s0 ∧ s1 ∧ s2 ∧ s3 ∧ s4 ∧ s5 ∧ s6) (f0 : p0) (f1 : p1) (f2 : p2) (f3 : p3) (f4 : p4) (f5 : p5) (f6 : p6) : q0 ∧ q1 ∧ q2 ∧ q3 ∧ q4 ∧ q5 ∧ q6 := ⟨Ms.ms hs t.1 f0, Ms.ms hs t.2.1 f1, Ms.ms hs t.2.2.1 f2, Ms.ms hs t.2.2.2.1 f3, Ms.ms hs t.2.2.2.2.1 f4, Ms.ms hs t.2.2.2.2.2.1 f5, Ms.ms hs t.2.2.2.2.2.2 f6⟩
theorem ms8 {p0 s0 q0 p1 s1 q1 p2 s2 q2 p3 s3 q3 p4 s4 q4 p5 s5 q5 p6 s6 q6 p7 s7 q7 : Prop} [Ms p0 W v g s0 q0] [Ms p1 W v g s1 q1] [Ms p2 W v g s2 q2] [Ms p3 W v g s3 q3] [Ms p4 W v g s4 q4] [Ms p5 W v g s5 q5] [Ms p6 W v g s6 q6] [Ms p7 W v g s7 q7] (hs : Sto W g v) (t : s0 ∧ s1 ∧ s2 ∧ s3 ∧ s4 ∧ s5 ∧ s6 ∧ s7) (f0 : p0) (f1 : p1) (f2 : p2) (f3 : p3) (f4 : p4) (f5 : p5) (f6 : p6) (f7 : p7) : q0 ∧ q1 ∧ q2 ∧ q3 ∧ q4 ∧ q5 ∧ q6 ∧ q7 := ⟨Ms.ms hs t.1 f0, Ms.ms hs t.2.1 f1, Ms.ms hs t.2.2.1 f2, Ms.ms hs t.2.2.2.1 f3, Ms.ms hs t.2.2.2.2.1 f4, Ms.ms hs t.2.2.2.2.2.1 f5, Ms.ms hs t.2.2.2.2.2.2.1 f6, Ms.ms hs t.2.2.2.2.2.2.2 f7⟩
theorem ms9 {p0 s0 q0 p1 s1 q1 p2 s2 q2 p3 s3 q3 p4 s4 q4 p5 s5 q5 p6 s6 q6 p7 s7 q7 p8 s8 q8 : Prop} [Ms p0 W v g s0 q0] [Ms p1 W v g s1 q1] [Ms p2 W v g s2 q2] [Ms p3 W v g s3 q3] [Ms p4 W v g s4 q4] [Ms p5 W v g s5 q5] [Ms p6 W v g s6 q6] [Ms p7 W v g s7 q7] [Ms p8 W v g s8 q8] (hs : Sto W g v) (t : s0 ∧ s1 ∧ s2 ∧ s3 ∧ s4 ∧ s5 ∧ s6 ∧ s7 ∧ s8) (f0 : p0) (f1 : p1) (f2 : p2) (f3 : p3) (f4 : p4) (f5 : p5) (f6 : p6) (f7 : p7) (f8 : p8) : q0 ∧ q1 ∧ q2 ∧ q3 ∧ q4 ∧ q5 ∧ q6 ∧ q7 ∧ q8 := ⟨Ms.ms hs t.1 f0, Ms.ms hs t.2.1 f1, Ms.ms hs t.2.2.1 f2, Ms.ms hs t.2.2.2.1 f3, Ms.ms hs t.2.2.2.2.1 f4, Ms.ms hs t.2.2.2.2.2.1 f5, Ms.ms hs t.2.2.2.2.2.2.1 f6, Ms.ms hs t.2.2.2.2.2.2.2.1 f7, Ms.ms hs t.2.2.2.2.2.2.2.2 f8⟩
theorem al1 {F : World → Prop} {o : Obj} (h : ∀ v, Below w.heap.size w v → v.heap[w.heap.size]? = some o → F v) : F (w.alloc o) := h _ (below_alloc w o) (heap_alloc_new w o)
theorem al2 {F : World → Prop} {o p : Obj} (h : ∀ v, Below w.heap.size w v → v.heap[w.heap.size]? = some o → v.heap[w.heap.size + 1]? = some p → F v) : F ((w.alloc o).alloc p) :=
 h _ (below_alloc2 w o p) ((Below.heap_alloc _ _ _ (by simp)).trans (heap_alloc_new w o)) (by have := heap_alloc_new (w.alloc o) p; simpa using this)
theorem al3 {F : World → Prop} {o p q : Obj} (h : ∀ v, Below w.heap.size w v → v.heap[w.heap.size]? = some o → v.heap[w.heap.size + 1]? = some p → v.heap[w.heap.size + 1 + 1]? = some q → F v) : F (((w.alloc o).alloc p).alloc q) :=
 h _ (below_alloc3 w o p q) ((Below.heap_alloc _ _ _ (by simp; omega)).trans ((Below.heap_alloc _ _ _ (by simp)).trans (heap_alloc_new w o))) ((Below.heap_alloc _ _ _ (by simp)).trans (by have := heap_alloc_new (w.alloc o) p; simpa using this)) (by have := heap_alloc_new ((w.alloc o).alloc p) q; simpa using this)
theorem al4 {F : World → Prop} {o p q r : Obj} (h : ∀ v, Below w.heap.size w v → v.heap[w.heap.size]? = some o → v.heap[w.heap.size + 1]? = some p → v.heap[w.heap.size + 1 + 1]? = some q → v.heap[w.heap.size + 1 + 1 + 1]? = some r → F v) : F ((((w.alloc o).alloc p).alloc q).alloc r) :=
 have a : ∀ (k : Nat) (u : World) (x y : Obj), k < u.heap.size → u.heap[k]? = some y → (u.alloc x).heap[k]? = some y := fun k u x y hk hy => (Below.heap_alloc _ _ _ hk).trans hy
 h _ ((below_alloc3 w o p q).trans ((below_alloc _ r).mono (by simp; omega))) (a _ _ _ _ (by simp; omega) (a _ _ _ _ (by simp; omega) (a _ _ _ _ (by simp) (heap_alloc_new w o)))) (a _ _ _ _ (by simp) (a _ _ _ _ (by simp) (by have := heap_alloc_new (w.alloc o) p; simpa using this))) (a _ _ _ _ (by simp) (by have := heap_alloc_new ((w.alloc o).alloc p) q; simpa using this)) (by have := heap_alloc_new (((w.alloc o).alloc p).alloc q) r; simpa using this)
theorem al1c {P : Program} {a : Array Value} {Q : Ending → World → Prop} {o : Obj} (h : ∀ v, Below w.heap.size w v → v.heap[w.heap.size]? = some o → Calls P f a v Q) : Calls P f a (w.alloc o) Q := al1 (F := fun v => Calls P f a v Q) h
theorem al2c {P : Program} {a : Array Value} {Q : Ending → World → Prop} {o p : Obj} (h : ∀ v, Below w.heap.size w v → v.heap[w.heap.size]? = some o → v.heap[w.heap.size + 1]? = some p → Calls P f a v Q) : Calls P f a ((w.alloc o).alloc p) Q := al2 (F := fun v => Calls P f a v Q) h
theorem al3c {P : Program} {a : Array Value} {Q : Ending → World → Prop} {o p q : Obj} (h : ∀ v, Below w.heap.size w v → v.heap[w.heap.size]? = some o → v.heap[w.heap.size + 1]? = some p → v.heap[w.heap.size + 1 + 1]? = some q → Calls P f a v Q) : Calls P f a (((w.alloc o).alloc p).alloc q) Q := al3 (F := fun v => Calls P f a v Q) h
theorem al4c {P : Program} {a : Array Value} {Q : Ending → World → Prop} {o p q r : Obj} (h : ∀ v, Below w.heap.size w v → v.heap[w.heap.size]? = some o → v.heap[w.heap.size + 1]? = some p → v.heap[w.heap.size + 1 + 1]? = some q → v.heap[w.heap.size + 1 + 1 + 1]? = some r → Calls P f a v Q) : Calls P f a ((((w.alloc o).alloc p).alloc q).alloc r) Q := al4 (F := fun v => Calls P f a v Q) h
theorem Ex.of (h : w.heap[g]? = some (.cells #[.bool b, .slice A n c, .bool p, .slice B m d] 194 (0, 0))) : Ex w g b A n c p B m d := h
theorem Bx.of (h : w.heap[g]? = some (.cells #[.bool b, .slice A n c] 24 (0, 0))) : Bx w g b A n c := h
theorem Dx.of (h : w.heap[g]? = some (.cells #[.bool b, .slice A n c, .int .i64 e] 55 (0, 0))) : Dx w g b A n c e := h
theorem Lx.of (h : w.heap[g]? = some (.cells #[.bool b, .slice A n c, .bool p, .slice B m d, .int .i64 e] 26 (0, 0))) : Lx w g b A n c p B m d e := h
theorem Bx.st {F : World → Prop} (x : Bx W g b A n c) {b' : Bool} {A' : Option Addr} {n' : Nat} {c' : Nat}
  (h : ∀ v, Sto W g v → Bx v g b' A' n' c' → F v) : F ((W.setCell ⟨g, 0, none⟩ (.bool b')).setCell ⟨g, 1, none⟩ (.slice A' n' c')) :=
 have N : Nl W g := nl_of x fun i y => by rcases i with _ | _ | i <;> simp
 h _ (((Sto.refl W g).set N).set N) (x.put _ _ _ _)
theorem Bx.stc {P : Program} {a : Array Value} {Q : Ending → World → Prop} (x : Bx W g b A n c) {b' : Bool} {A' : Option Addr} {n' : Nat} {c' : Nat}
  (h : ∀ v, Sto W g v → Bx v g b' A' n' c' → Calls P f a v Q) : Calls P f a ((W.setCell ⟨g, 0, none⟩ (.bool b')).setCell ⟨g, 1, none⟩ (.slice A' n' c')) Q := x.st (F := fun v => Calls P f a v Q) h
theorem Dx.st {F : World → Prop} (x : Dx W g b A n c e) {b' : Bool} {A' : Option Addr} {n' : Nat} {c' : Nat} {e' : Int}
  (h : ∀ v, Sto W g v → Dx v g b' A' n' c' e' → F v) : F (((W.setCell ⟨g, 0, none⟩ (.bool b')).setCell ⟨g, 1, none⟩ (.slice A' n' c')).setCell ⟨g, 2, none⟩ (.int .i64 e')) :=
 have N : Nl W g := nl_of x fun i y => by rcases i with _ | _ | _ | i <;> simp
 h _ ((((Sto.refl W g).set N).set N).set N) (x.put _ _ _ _ _)
theorem Dx.stc {P : Program} {a : Array Value} {Q : Ending → World → Prop} (x : Dx W g b A n c e) {b' : Bool} {A' : Option Addr} {n' : Nat} {c' : Nat} {e' : Int}
  (h : ∀ v, Sto W g v → Dx v g b' A' n' c' e' → Calls P f a v Q) : Calls P f a (((W.setCell ⟨g, 0, none⟩ (.bool b')).setCell ⟨g, 1, none⟩ (.slice A' n' c')).setCell ⟨g, 2, none⟩ (.int .i64 e')) Q := x.st (F := fun v => Calls P f a v Q) h
theorem Lx.st {F : World → Prop} (x : Lx W g b A n c p B m d e) {b' : Bool} {A' : Option Addr} {n' : Nat} {c' : Nat} {p' : Bool} {B' : Option Addr} {m' : Nat} {d' : Nat} {e' : Int}
  (h : ∀ v, Sto W g v → Lx v g b' A' n' c' p' B' m' d' e' → F v) : F (((((W.setCell ⟨g, 0, none⟩ (.bool b')).setCell ⟨g, 1, none⟩ (.slice A' n' c')).setCell ⟨g, 2, none⟩ (.bool p')).setCell ⟨g, 3, none⟩ (.slice B' m' d')).setCell ⟨g, 4, none⟩ (.int .i64 e')) :=
 have N : Nl W g := nl_of x fun i y => by rcases i with _ | _ | _ | _ | _ | i <;> simp
 h _ ((((((Sto.refl W g).set N).set N).set N).set N).set N) (x.put _ _ _ _ _ _ _ _ _)
theorem Bx.st2 {F : World → Prop} {h : Nat} {b1 : Bool} {A1 : Option Addr} {n1 c1 : Nat} (x : Bx W g b A n c) (y : Bx W h b1 A1 n1 c1) (e : h ≠ g) {b' : Bool} {A' : Option Addr} {n' c' : Nat} {b2 : Bool} {A2 : Option Addr} {n2 c2 : Nat}
  (k : ∀ v u, Sto W g v → Sto v h u → Bx u g b' A' n' c' → Bx u h b2 A2 n2 c2 → F u) : F ((((W.setCell ⟨g, 0, none⟩ (.bool b')).setCell ⟨g, 1, none⟩ (.slice A' n' c')).setCell ⟨h, 0, none⟩ (.bool b2)).setCell ⟨h, 1, none⟩ (.slice A2 n2 c2)) :=
 x.st (F := fun v => F ((v.setCell ⟨h, 0, none⟩ (.bool b2)).setCell ⟨h, 1, none⟩ (.slice A2 n2 c2))) fun v s hx =>
  Bx.st (F := F) (Ms.ms s e y) fun u s' hy => k v u s s' (Ms.ms s' e.symm hx) hy
end Go.Proofs.YtdonaominffpnaaGreatDoor
namespace Go.Proofs.YtdonaominffpnaaGreatDoor
variable {A B : Option Addr} {b p : Bool} {c d g m n : Nat} {e : Int} {w : World}
set_option linter.unusedVariables false
open Go.RowKit
def Nx (w : World) (g : Nat) (b : Bool) (A : Option Addr) (n : Nat) (c : Nat) (p : Bool) (B : Option Addr) (m : Nat) (d : Nat) (e : Int) : Prop := w.heap[g]? = some (.cells #[.bool b, .slice A n c, .bool p, .slice B m d, .int .i64 e] 97 (0, 0))
section
variable {w w' w0 : World} {g h H : Nat} {b : Bool} {A : Option Addr} {n : Nat} {c : Nat} {p : Bool} {B : Option Addr} {m : Nat} {d : Nat} {e : Int} {b' : Bool} {A' : Option Addr} {n' : Nat} {c' : Nat} {p' : Bool} {B' : Option Addr} {m' : Nat} {d' : Nat} {e' : Int}
theorem Nx.lt (h : Nx w g b A n c p B m d e) : g < w.heap.size := by
 rcases Nat.lt_or_ge g w.heap.size with hlt | hge
 ·exact hlt
 ·unfold Nx at h; rw [Array.getElem?_eq_none hge] at h; cases h
theorem Nx.c0 (h : Nx w g b A n c p B m d e) : w.cell? ⟨g, 0, none⟩ = some (.bool b) := by rw [cell_of_row w g 0 _ _ (0, 0) h]; rfl
theorem Nx.c1 (h : Nx w g b A n c p B m d e) : w.cell? ⟨g, 1, none⟩ = some (.slice A n c) := by rw [cell_of_row w g 1 _ _ (0, 0) h]; rfl
theorem Nx.c2 (h : Nx w g b A n c p B m d e) : w.cell? ⟨g, 2, none⟩ = some (.bool p) := by rw [cell_of_row w g 2 _ _ (0, 0) h]; rfl
theorem Nx.c3 (h : Nx w g b A n c p B m d e) : w.cell? ⟨g, 3, none⟩ = some (.slice B m d) := by rw [cell_of_row w g 3 _ _ (0, 0) h]; rfl
theorem Nx.c4 (h : Nx w g b A n c p B m d e) : w.cell? ⟨g, 4, none⟩ = some (.int .i64 e) := by rw [cell_of_row w g 4 _ _ (0, 0) h]; rfl
theorem Nx.fr (h : Nx w g b A n c p B m d e) (i : Nat) : w.frozen? ⟨g, i, none⟩ = false := by
 unfold Nx at h
 simp [World.frozen?, h]
theorem Nx.alloc (h : Nx w g b A n c p B m d e) (o : Obj) : Nx (w.alloc o) g b A n c p B m d e := (Below.heap_alloc w o g h.lt).trans h
theorem Nx.below {I : Nat} (h : Nx w g b A n c p B m d e) (hb : Below I w w') (hg : g < I) : Nx w' g b A n c p B m d e := (hb.block g hg).trans h
theorem Nx.keep (h : Nx w g b A n c p B m d e) (hb : Below w.heap.size w w') : Nx w' g b A n c p B m d e := h.below hb h.lt
instance Nx.mv {v w : World} : Mv (Nx v g b A n c p B m d e) v w (Nx w g b A n c p B m d e) := ⟨fun h hb => Nx.keep h hb⟩
theorem Nx.al (h : Nx w g b A n c p B m d e) : w.cell? ⟨g, 0, none⟩ = some (.bool b) ∧ w.frozen? ⟨g, 0, none⟩ = false ∧ w.cell? ⟨g, 1, none⟩ = some (.slice A n c) ∧ w.frozen? ⟨g, 1, none⟩ = false ∧ w.cell? ⟨g, 2, none⟩ = some (.bool p) ∧ w.frozen? ⟨g, 2, none⟩ = false ∧ w.cell? ⟨g, 3, none⟩ = some (.slice B m d) ∧ w.frozen? ⟨g, 3, none⟩ = false ∧ w.cell? ⟨g, 4, none⟩ = some (.int .i64 e) ∧ w.frozen? ⟨g, 4, none⟩ = false := ⟨h.c0, h.fr 0, h.c1, h.fr 1, h.c2, h.fr 2, h.c3, h.fr 3, h.c4, h.fr 4⟩
theorem Nx.far (h : Nx w g b A n c p B m d e) {z : Addr} (hp : g ≠ z.block) (u : Value) : Nx (w.setCell z u) g b A n c p B m d e := (Below.heap_setCell w z u g hp).trans h
theorem Nx.put (x : Nx w g b A n c p B m d e) (b' : Bool) (A' : Option Addr) (n' : Nat) (c' : Nat) (p' : Bool) (B' : Option Addr) (m' : Nat) (d' : Nat) (e' : Int) : Nx (((((w.setCell ⟨g, 0, none⟩ (.bool b')).setCell ⟨g, 1, none⟩ (.slice A' n' c')).setCell ⟨g, 2, none⟩ (.bool p')).setCell ⟨g, 3, none⟩ (.slice B' m' d')).setCell ⟨g, 4, none⟩ (.int .i64 e')) g b' A' n' c' p' B' m' d' e' := by
 unfold Nx at x ⊢
 simp [World.setCell, Array.getElem?_modify, x]
theorem Nx.asideN (x : Nx w h b A n c p B m d e) (hg : h ≠ g) : Nx (((((w.setCell ⟨g, 0, none⟩ (.bool b')).setCell ⟨g, 1, none⟩ (.slice A' n' c')).setCell ⟨g, 2, none⟩ (.bool p')).setCell ⟨g, 3, none⟩ (.slice B' m' d')).setCell ⟨g, 4, none⟩ (.int .i64 e')) h b A n c p B m d e := (((((x.far hg _).far hg _).far hg _).far hg _).far hg _)
end
theorem Nx.of (h : w.heap[g]? = some (.cells #[.bool b, .slice A n c, .bool p, .slice B m d, .int .i64 e] 97 (0, 0))) : Nx w g b A n c p B m d e := h
instance {W v : World} {g h : Nat} {b p : Bool} {A B : Option Addr} {n c m d : Nat} {e : Int} : Ms (Nx W h b A n c p B m d e) W v g (h ≠ g) (Nx v h b A n c p B m d e) := ⟨fun s hg x => (s.block h hg).trans x⟩
theorem Nx.st {F : World → Prop} {W : World} (x : Nx W g b A n c p B m d e) {b' : Bool} {A' : Option Addr} {n' : Nat} {c' : Nat} {p' : Bool} {B' : Option Addr} {m' : Nat} {d' : Nat} {e' : Int}
  (h : ∀ v, Sto W g v → Nx v g b' A' n' c' p' B' m' d' e' → F v) : F (((((W.setCell ⟨g, 0, none⟩ (.bool b')).setCell ⟨g, 1, none⟩ (.slice A' n' c')).setCell ⟨g, 2, none⟩ (.bool p')).setCell ⟨g, 3, none⟩ (.slice B' m' d')).setCell ⟨g, 4, none⟩ (.int .i64 e')) :=
 have N : Nl W g := nl_of x fun i y => by rcases i with _ | _ | _ | _ | _ | i <;> simp
 h _ ((((((Sto.refl W g).set N).set N).set N).set N).set N) (x.put _ _ _ _ _ _ _ _ _)
instance {W v : World} {g : Nat} : Ms (Tab W) W v g (0 ≠ g) (Tab v) := ⟨fun s hg x => ⟨fun j hj => by rw [← x.at_ j hj]; simp only [World.cell?, s.block _ hg]⟩⟩
end Go.Proofs.YtdonaominffpnaaGreatDoor
