/-
 Bounds as values, boxed in memory; frames; generators.
-/
import Derived.Test.YtdonaominffpnaaGreatDoorPc
import Derived.Test.YtdonaominffpnaaGreatDoorRwm
import Derived.Test.YtdonaominffpnaaGreatDoorPup
namespace Go.Proofs.YtdonaominffpnaaGreatDoor
variable {K Q : Nat} {X : Int}
set_option linter.unusedVariables false
open Go.RowKit
def Ou2 (w : World) (P Q x : Int) (k : Nat) (e : Ending) (w' : World) : Prop := ∃ A n c A2 n2 c2, e = .returned (.tuple #[.agg #[.bool (ngB P), .slice A n c], .agg #[.bool (ngB Q), .slice A2 n2 c2], .int .i64 x]) ∧ Zn w' A n c P k ∧ Zn w' A2 n2 c2 Q k ∧ Below w.heap.size w w'
theorem si_twL {L : Nat} (hK : K ≤ 2000) (hQ : Q + 11 ≤ 64 * L) (h : X ≤ K * twP Q) (h0 : -(K * twP Q) ≤ X) : Si X L := by
 have hp := tw_pos Q
 have h1 : X.natAbs ≤ K * 2 ^ Q := by
  have e : ((K * 2 ^ Q : Nat) : Int) = K * twP Q := by unfold twP; push_cast; rfl
  omega
 have h5 : Wd ^ L = 2 ^ (64 * L - Q) * 2 ^ Q := by rw [Wd_pow, ← Nat.pow_mul, ← Nat.pow_add, Nat.sub_add_cancel (by omega)]
 have h6 : 2 ^ 11 ≤ 2 ^ (64 * L - Q) := Nat.pow_le_pow_right Nat.zero_lt_two (by omega)
 have h7 : K < 2 ^ (64 * L - Q) := Nat.lt_of_lt_of_le (Nat.lt_of_le_of_lt hK (by decide)) h6
 show X.natAbs < Wd ^ L
 rw [h5]
 exact Nat.lt_of_le_of_lt h1 (Nat.mul_lt_mul_of_pos_right h7 (Nat.pow_pos Nat.zero_lt_two))
theorem si_tw (hK : K ≤ 2000) (hQ : Q ≤ 1200) (h : X ≤ K * twP Q) (h0 : -(K * twP Q) ≤ X) : Si X 20 := si_twL hK (by omega) h h0
end Go.Proofs.YtdonaominffpnaaGreatDoor
namespace Go.Proofs.YtdonaominffpnaaGreatDoor
variable {I : Nat} {y : Int}
set_option linter.unusedVariables false
open Go.RowKit
def Kx (w : World) (g : Nat) (b : Bool) (A : Option Addr) (n : Nat) (c : Nat) (p : Bool) (B : Option Addr) (m : Nat) (d : Nat) : Prop := w.heap[g]? = some (.cells #[.bool b, .slice A n c, .bool p, .slice B m d] 190 (0, 0))
section
variable {w w' w0 : World} {g h H : Nat} {b : Bool} {A : Option Addr} {n : Nat} {c : Nat} {p : Bool} {B : Option Addr} {m : Nat} {d : Nat} {b' : Bool} {A' : Option Addr} {n' : Nat} {c' : Nat} {p' : Bool} {B' : Option Addr} {m' : Nat} {d' : Nat}
theorem Kx.lt (h : Kx w g b A n c p B m d) : g < w.heap.size := by
 rcases Nat.lt_or_ge g w.heap.size with hlt | hge
 ·exact hlt
 ·unfold Kx at h; rw [Array.getElem?_eq_none hge] at h; cases h
theorem Kx.c0 (h : Kx w g b A n c p B m d) : w.cell? ⟨g, 0, none⟩ = some (.bool b) := by rw [cell_of_row w g 0 _ _ (0, 0) h]; rfl
theorem Kx.c1 (h : Kx w g b A n c p B m d) : w.cell? ⟨g, 1, none⟩ = some (.slice A n c) := by rw [cell_of_row w g 1 _ _ (0, 0) h]; rfl
theorem Kx.c2 (h : Kx w g b A n c p B m d) : w.cell? ⟨g, 2, none⟩ = some (.bool p) := by rw [cell_of_row w g 2 _ _ (0, 0) h]; rfl
theorem Kx.c3 (h : Kx w g b A n c p B m d) : w.cell? ⟨g, 3, none⟩ = some (.slice B m d) := by rw [cell_of_row w g 3 _ _ (0, 0) h]; rfl
theorem Kx.fr (h : Kx w g b A n c p B m d) (i : Nat) : w.frozen? ⟨g, i, none⟩ = false := by
 unfold Kx at h
 simp [World.frozen?, h]
theorem Kx.al (h : Kx w g b A n c p B m d) : w.cell? ⟨g, 0, none⟩ = some (.bool b) ∧ w.frozen? ⟨g, 0, none⟩ = false ∧ w.cell? ⟨g, 1, none⟩ = some (.slice A n c) ∧ w.frozen? ⟨g, 1, none⟩ = false ∧ w.cell? ⟨g, 2, none⟩ = some (.bool p) ∧ w.frozen? ⟨g, 2, none⟩ = false ∧ w.cell? ⟨g, 3, none⟩ = some (.slice B m d) ∧ w.frozen? ⟨g, 3, none⟩ = false := ⟨h.c0, h.fr 0, h.c1, h.fr 1, h.c2, h.fr 2, h.c3, h.fr 3⟩
theorem Kx.new (w : World) (b : Bool) (A : Option Addr) (n : Nat) (c : Nat) (p : Bool) (B : Option Addr) (m : Nat) (d : Nat) : Kx (w.alloc (.cells #[.bool b, .slice A n c, .bool p, .slice B m d] 190)) w.heap.size b A n c p B m d := heap_alloc_new w _
theorem Kx.alloc (h : Kx w g b A n c p B m d) (o : Obj) : Kx (w.alloc o) g b A n c p B m d := (Below.heap_alloc w o g h.lt).trans h
theorem Kx.drew (h : Kx w g b A n c p B m d) : Kx w.drew g b A n c p B m d := h
theorem Kx.below (h : Kx w g b A n c p B m d) (hb : Below I w w') (hg : g < I) : Kx w' g b A n c p B m d := (hb.block g hg).trans h
theorem Kx.keep (h : Kx w g b A n c p B m d) (hb : Below w.heap.size w w') : Kx w' g b A n c p B m d := h.below hb h.lt
instance Kx.mv {v w : World} : Mv (Kx v g b A n c p B m d) v w (Kx w g b A n c p B m d) := ⟨fun h hb => Kx.keep h hb⟩
theorem Kx.far (h : Kx w g b A n c p B m d) {z : Addr} (hp : g ≠ z.block) (u : Value) : Kx (w.setCell z u) g b A n c p B m d := (Below.heap_setCell w z u g hp).trans h
end
section
variable {w w0 : World} {g h I : Nat} {b : Bool} {A : Option Addr} {n : Nat} {c : Nat} {p : Bool} {B : Option Addr} {m : Nat} {d : Nat} {b' : Bool} {A' : Option Addr} {n' : Nat} {c' : Nat} {p' : Bool} {B' : Option Addr} {m' : Nat} {d' : Nat}
theorem Kx.put (x : Kx w g b A n c p B m d) (b' : Bool) (A' : Option Addr) (n' : Nat) (c' : Nat) (p' : Bool) (B' : Option Addr) (m' : Nat) (d' : Nat) : Kx ((((w.setCell ⟨g, 0, none⟩ (.bool b')).setCell ⟨g, 1, none⟩ (.slice A' n' c')).setCell ⟨g, 2, none⟩ (.bool p')).setCell ⟨g, 3, none⟩ (.slice B' m' d')) g b' A' n' c' p' B' m' d' := by
 unfold Kx at x ⊢
 simp [World.setCell, Array.getElem?_modify, x]
theorem put_belowK (hb : Below I w0 w) (hg : I ≤ g) (u0 u1 u2 u3 : Value) : Below I w0 ((((w.setCell ⟨g, 0, none⟩ u0).setCell ⟨g, 1, none⟩ u1).setCell ⟨g, 2, none⟩ u2).setCell ⟨g, 3, none⟩ u3) := ((((hb.setCell hg _).setCell hg _).setCell hg _).setCell hg _)
theorem Kx.putH (x : Kx w g b A n c p B m d) (b' : Bool) (A' : Option Addr) (n' c' : Nat) : Kx ((w.setCell ⟨g, 2, none⟩ (.bool b')).setCell ⟨g, 3, none⟩ (.slice A' n' c')) g b A n c b' A' n' c' := by
 unfold Kx at x ⊢
 simp [World.setCell, Array.getElem?_modify, x]
end
def Cx (w : World) (g : Nat) (v : Value) (t : TypeId) : Prop := w.heap[g]? = some (.cells #[v] t (0, 0)) ∧ ∀ x, v ≠ .int .u64 x
section
variable {w w' w0 : World} {g h I : Nat} {v v' : Value} {t : TypeId}
theorem Cx.lt (h : Cx w g v t) : g < w.heap.size := by
 rcases Nat.lt_or_ge g w.heap.size with hlt | hge
 ·exact hlt
 ·have h := h.1; rw [Array.getElem?_eq_none hge] at h; cases h
theorem Cx.c0 (h : Cx w g v t) : w.cell? ⟨g, 0, none⟩ = some v := by rw [cell_of_row w g 0 _ _ (0, 0) h.1]; rfl
theorem Cx.fr (h : Cx w g v t) (i : Nat) : w.frozen? ⟨g, i, none⟩ = false := by
 have h := h.1
 simp [World.frozen?, h]
theorem Cx.al (h : Cx w g v t) : w.cell? ⟨g, 0, none⟩ = some v ∧ w.frozen? ⟨g, 0, none⟩ = false := ⟨h.c0, h.fr 0⟩
theorem Cx.new (w : World) (v : Value) (t : TypeId) (hv : ∀ x, v ≠ .int .u64 x := by intro x h; cases h) : Cx (w.alloc (.cells #[v] t)) w.heap.size v t := ⟨heap_alloc_new w _, hv⟩
theorem Cx.alloc (h : Cx w g v t) (o : Obj) : Cx (w.alloc o) g v t := ⟨(Below.heap_alloc w o g h.lt).trans h.1, h.2⟩
theorem Cx.drew (h : Cx w g v t) : Cx w.drew g v t := h
theorem Cx.below (h : Cx w g v t) (hb : Below I w w') (hg : g < I) : Cx w' g v t := ⟨(hb.block g hg).trans h.1, h.2⟩
theorem Cx.keep (h : Cx w g v t) (hb : Below w.heap.size w w') : Cx w' g v t := h.below hb h.lt
instance Cx.mv {v9 w : World} : Mv (Cx v9 g v t) v9 w (Cx w g v t) := ⟨fun h hb => Cx.keep h hb⟩
theorem Cx.far (h : Cx w g v t) {z : Addr} (hp : g ≠ z.block) (u : Value) : Cx (w.setCell z u) g v t := ⟨(Below.heap_setCell w z u g hp).trans h.1, h.2⟩
theorem Cx.put (x : Cx w g v t) (v' : Value) (_ : TypeId) (hv : ∀ x, v' ≠ .int .u64 x := by intro x h; cases h) : Cx (w.setCell ⟨g, 0, none⟩ v') g v' t := by
 refine ⟨?_, hv⟩
 have x := x.1
 simp [World.setCell, Array.getElem?_modify, x]
end
section
variable {w : World} {g h : Nat} {b p b' p' : Bool} {A B A' B' : Option Addr} {n c m d n' c' m' d' : Nat} {v v' : Value} {t : TypeId}
theorem Bx.asideK (x : Bx w h b A n c) (hg : h ≠ g) : Bx ((((w.setCell ⟨g, 0, none⟩ (.bool b')).setCell ⟨g, 1, none⟩ (.slice A' n' c')).setCell ⟨g, 2, none⟩ (.bool p')).setCell ⟨g, 3, none⟩ (.slice B' m' d')) h b A n c := ((((x.far hg _).far hg _).far hg _).far hg _)
theorem Bx.asideC (x : Bx w h b A n c) (hg : h ≠ g) : Bx (w.setCell ⟨g, 0, none⟩ v') h b A n c := (x.far hg _)
theorem Kx.aside (x : Kx w h b A n c p B m d) (hg : h ≠ g) : Kx ((w.setCell ⟨g, 0, none⟩ (.bool b')).setCell ⟨g, 1, none⟩ (.slice A' n' c')) h b A n c p B m d := ((x.far hg _).far hg _)
theorem Kx.asideK (x : Kx w h b A n c p B m d) (hg : h ≠ g) : Kx ((((w.setCell ⟨g, 0, none⟩ (.bool b')).setCell ⟨g, 1, none⟩ (.slice A' n' c')).setCell ⟨g, 2, none⟩ (.bool p')).setCell ⟨g, 3, none⟩ (.slice B' m' d')) h b A n c p B m d := ((((x.far hg _).far hg _).far hg _).far hg _)
theorem Kx.asideC (x : Kx w h b A n c p B m d) (hg : h ≠ g) : Kx (w.setCell ⟨g, 0, none⟩ v') h b A n c p B m d := (x.far hg _)
theorem Cx.aside (x : Cx w h v t) (hg : h ≠ g) : Cx ((w.setCell ⟨g, 0, none⟩ (.bool b')).setCell ⟨g, 1, none⟩ (.slice A' n' c')) h v t := ((x.far hg _).far hg _)
theorem Cx.asideK (x : Cx w h v t) (hg : h ≠ g) : Cx ((((w.setCell ⟨g, 0, none⟩ (.bool b')).setCell ⟨g, 1, none⟩ (.slice A' n' c')).setCell ⟨g, 2, none⟩ (.bool p')).setCell ⟨g, 3, none⟩ (.slice B' m' d')) h v t := ((((x.far hg _).far hg _).far hg _).far hg _)
theorem Cx.asideC (x : Cx w h v t) (hg : h ≠ g) : Cx (w.setCell ⟨g, 0, none⟩ v') h v t := (x.far hg _)
end
section
variable {w : World} {g h : Nat} {b p b' p' bb : Bool} {A B A' B' AA : Option Addr} {n c m d n' c' m' d' nn cc k : Nat} {v v' : Value} {t : TypeId} {l : List Int} {X : Int}
theorem Kx.cell_putK {z : Addr} (x : Kx w g b A n c p B m d) (hz : w.cell? z = some (.int .u64 y)) : ((((w.setCell ⟨g, 0, none⟩ (.bool b')).setCell ⟨g, 1, none⟩ (.slice A' n' c')).setCell ⟨g, 2, none⟩ (.bool p')).setCell ⟨g, 3, none⟩ (.slice B' m' d')).cell? z = some (.int .u64 y) := by
 have e0 : z ≠ ⟨g, 0, none⟩ := fun e => by
  rw [e, x.c0] at hz
  cases Option.some.inj hz
 have e1 : z ≠ ⟨g, 1, none⟩ := fun e => by
  rw [e, x.c1] at hz
  cases Option.some.inj hz
 have e2 : z ≠ ⟨g, 2, none⟩ := fun e => by
  rw [e, x.c2] at hz
  cases Option.some.inj hz
 have e3 : z ≠ ⟨g, 3, none⟩ := fun e => by
  rw [e, x.c3] at hz
  cases Option.some.inj hz
 rw [World.cell?_setCell_other _ _ _ _ e3.symm, World.cell?_setCell_other _ _ _ _ e2.symm, World.cell?_setCell_other _ _ _ _ e1.symm, World.cell?_setCell_other _ _ _ _ e0.symm]
 exact hz
theorem Rd.sputK (hr : Rd w w.heap.size AA nn cc l) (x : Kx w g b A n c p B m d) : Rd ((((w.setCell ⟨g, 0, none⟩ (.bool b')).setCell ⟨g, 1, none⟩ (.slice A' n' c')).setCell ⟨g, 2, none⟩ (.bool p')).setCell ⟨g, 3, none⟩ (.slice B' m' d')) ((((w.setCell ⟨g, 0, none⟩ (.bool b')).setCell ⟨g, 1, none⟩ (.slice A' n' c')).setCell ⟨g, 2, none⟩ (.bool p')).setCell ⟨g, 3, none⟩ (.slice B' m' d')).heap.size AA nn cc l := by
 refine Rd.more (B := w.heap.size) ?_ (by simp [World.setCell])
 refine ⟨hr.1, hr.2.1, hr.2.2.1, hr.2.2.2.1, fun hn => ?_⟩
 obtain ⟨d, off, e, hd, hc⟩ := hr.at_ hn
 exact ⟨d, off, e, hd, fun k hk => x.cell_putK (hc k hk)⟩
theorem Zr.putK (hr : Zr w bb AA nn cc X k) (x : Kx w g b A n c p B m d) : Zr ((((w.setCell ⟨g, 0, none⟩ (.bool b')).setCell ⟨g, 1, none⟩ (.slice A' n' c')).setCell ⟨g, 2, none⟩ (.bool p')).setCell ⟨g, 3, none⟩ (.slice B' m' d')) bb AA nn cc X k := by
 obtain ⟨l, h1, h2, h3⟩ := hr
 exact ⟨l, h1.sputK x, h2, h3⟩
theorem Zn.putK (hr : Zn w AA nn cc X k) (x : Kx w g b A n c p B m d) : Zn ((((w.setCell ⟨g, 0, none⟩ (.bool b')).setCell ⟨g, 1, none⟩ (.slice A' n' c')).setCell ⟨g, 2, none⟩ (.bool p')).setCell ⟨g, 3, none⟩ (.slice B' m' d')) AA nn cc X k := ⟨hr.1.sputK x, hr.2⟩
theorem Kx.cell_putH {z : Addr} (x : Kx w g b A n c p B m d) (hz : w.cell? z = some (.int .u64 y)) : ((w.setCell ⟨g, 2, none⟩ (.bool b')).setCell ⟨g, 3, none⟩ (.slice A' n' c')).cell? z = some (.int .u64 y) := by
 have e2 : z ≠ ⟨g, 2, none⟩ := fun e => by
  rw [e, x.c2] at hz
  cases Option.some.inj hz
 have e3 : z ≠ ⟨g, 3, none⟩ := fun e => by
  rw [e, x.c3] at hz
  cases Option.some.inj hz
 rw [World.cell?_setCell_other _ _ _ _ e3.symm, World.cell?_setCell_other _ _ _ _ e2.symm]
 exact hz
theorem Rd.sputH (hr : Rd w w.heap.size AA nn cc l) (x : Kx w g b A n c p B m d) : Rd ((w.setCell ⟨g, 2, none⟩ (.bool b')).setCell ⟨g, 3, none⟩ (.slice A' n' c')) ((w.setCell ⟨g, 2, none⟩ (.bool b')).setCell ⟨g, 3, none⟩ (.slice A' n' c')).heap.size AA nn cc l := by
 refine Rd.more (B := w.heap.size) ?_ (by simp [World.setCell])
 refine ⟨hr.1, hr.2.1, hr.2.2.1, hr.2.2.2.1, fun hn => ?_⟩
 obtain ⟨d, off, e, hd, hc⟩ := hr.at_ hn
 exact ⟨d, off, e, hd, fun k hk => x.cell_putH (hc k hk)⟩
theorem Zn.putH (hr : Zn w AA nn cc X k) (x : Kx w g b A n c p B m d) : Zn ((w.setCell ⟨g, 2, none⟩ (.bool b')).setCell ⟨g, 3, none⟩ (.slice A' n' c')) AA nn cc X k := ⟨hr.1.sputH x, hr.2⟩
theorem Cx.cell_putC {z : Addr} (x : Cx w g v t) (hz : w.cell? z = some (.int .u64 y)) : (w.setCell ⟨g, 0, none⟩ v').cell? z = some (.int .u64 y) := by
 have e0 : z ≠ ⟨g, 0, none⟩ := fun e => by
  rw [e, x.c0] at hz
  exact x.2 y (Option.some.inj hz)
 rw [World.cell?_setCell_other _ _ _ _ e0.symm]
 exact hz
theorem Rd.sputC (hr : Rd w w.heap.size AA nn cc l) (x : Cx w g v t) : Rd (w.setCell ⟨g, 0, none⟩ v') (w.setCell ⟨g, 0, none⟩ v').heap.size AA nn cc l := by
 refine Rd.more (B := w.heap.size) ?_ (by simp [World.setCell])
 refine ⟨hr.1, hr.2.1, hr.2.2.1, hr.2.2.2.1, fun hn => ?_⟩
 obtain ⟨d, off, e, hd, hc⟩ := hr.at_ hn
 exact ⟨d, off, e, hd, fun k hk => x.cell_putC (hc k hk)⟩
theorem Zr.putC (hr : Zr w bb AA nn cc X k) (x : Cx w g v t) : Zr (w.setCell ⟨g, 0, none⟩ v') bb AA nn cc X k := by
 obtain ⟨l, h1, h2, h3⟩ := hr
 exact ⟨l, h1.sputC x, h2, h3⟩
end
structure Fr (P : Nat → Prop) (W w' : World) : Prop where
 os : w'.os = W.os
 tape : w'.tape = W.tape
 output : w'.output = W.output
 size : W.heap.size ≤ w'.heap.size
 block : ∀ k, k < W.heap.size → ¬ P k → w'.heap[k]? = W.heap[k]?
 rd : ∀ A n c l, Rd W W.heap.size A n c l → Rd w' w'.heap.size A n c l
section
variable {P Q : Nat → Prop} {W v w' : World} {g I : Nat}
theorem Fr.of (hb : Below W.heap.size W w') : Fr P W w' := ⟨hb.os, hb.tape, hb.output, hb.size, fun k hk _ => hb.block k hk, fun _ _ _ _ h => (h.below hb).more hb.size⟩
theorem Fr.refl (W : World) : Fr P W W := Fr.of (Below.refl _ _)
theorem Fr.trans (h : Fr P W v) (h2 : Fr P v w') : Fr P W w' := ⟨h2.os.trans h.os, h2.tape.trans h.tape, h2.output.trans h.output, Nat.le_trans h.size h2.size, fun k hk hp => (h2.block k (Nat.lt_of_lt_of_le hk h.size) hp).trans (h.block k hk hp), fun _ _ _ _ hr => h2.rd _ _ _ _ (h.rd _ _ _ _ hr)⟩
theorem Fr.thenB (h : Fr P W v) (h2 : Below v.heap.size v w') : Fr P W w' := h.trans (Fr.of h2)
theorem Fr.mono (h : Fr P W w') (hp : ∀ b, b < W.heap.size → P b → Q b) : Fr Q W w' := ⟨h.os, h.tape, h.output, h.size, fun k hk hq => h.block k hk (fun q => hq (hp k hk q)), h.rd⟩
theorem Fr.below {B : Nat} {w0 : World} (h : Fr P W w') (hb : Below B w0 W) (hB : B ≤ W.heap.size) (hp : ∀ b, P b → B ≤ b) : Below B w0 w' :=
 ⟨h.os.trans hb.os, h.tape.trans hb.tape, h.output.trans hb.output, Nat.le_trans hb.size h.size, fun k hk => (h.block k (Nat.lt_of_lt_of_le hk hB) (fun q => by have := hp k q; omega)).trans (hb.block k hk)⟩
theorem frdrew (h : Fr P W.drew w') : Fr P W w' := ⟨h.os, h.tape, h.output, h.size, h.block, h.rd⟩
end
section
variable {P : Nat → Prop} {w w' : World} {g n c m d k : Nat} {b p : Bool} {A B : Option Addr} {X : Int} {v : Value} {t : TypeId}
theorem Bx.via (x : Bx w g b A n c) (h : Fr P w w') (hg : ¬ P g) : Bx w' g b A n c := (h.block g x.lt hg).trans x
theorem Kx.via (x : Kx w g b A n c p B m d) (h : Fr P w w') (hg : ¬ P g) : Kx w' g b A n c p B m d := (h.block g x.lt hg).trans x
theorem Cx.via (x : Cx w g v t) (h : Fr P w w') (hg : ¬ P g) : Cx w' g v t := ⟨(h.block g x.lt hg).trans x.1, x.2⟩
theorem Zn.via (x : Zn w A n c X k) (h : Fr P w w') : Zn w' A n c X k := ⟨h.rd _ _ _ _ x.1, x.2⟩
theorem Zr.via (x : Zr w b A n c X k) (h : Fr P w w') : Zr w' b A n c X k := by
 obtain ⟨l, h1, h2, h3⟩ := x
 exact ⟨l, h.rd _ _ _ _ h1, h2, h3⟩
end
section
variable {P : Nat → Prop} {W w : World} {g n c m d n' c' m' d' : Nat} {b p b' p' : Bool} {A B A' B' : Option Addr} {v v' : Value} {t : TypeId}
theorem Fr.putK (h : Fr P W w) (hg : P g ∨ W.heap.size ≤ g) (x : Kx w g b A n c p B m d) : Fr P W ((((w.setCell ⟨g, 0, none⟩ (.bool b')).setCell ⟨g, 1, none⟩ (.slice A' n' c')).setCell ⟨g, 2, none⟩ (.bool p')).setCell ⟨g, 3, none⟩ (.slice B' m' d')) := by
 refine ⟨h.os, h.tape, h.output, Nat.le_trans h.size (by simp [World.setCell]), fun k hk hp => ?_, fun _ _ _ _ hr => (h.rd _ _ _ _ hr).sputK x⟩
 have hne : k ≠ g := fun e => by
  rcases hg with hg | hg
  ·exact hp (by rw [e]; exact hg)
  ·omega
 exact ((((Below.heap_setCell _ _ _ k hne).trans (Below.heap_setCell _ _ _ k hne)).trans (Below.heap_setCell _ _ _ k hne)).trans (Below.heap_setCell _ _ _ k hne)).trans (h.block k hk hp)
theorem Fr.putH (h : Fr P W w) (hg : P g ∨ W.heap.size ≤ g) (x : Kx w g b A n c p B m d) : Fr P W ((w.setCell ⟨g, 2, none⟩ (.bool b')).setCell ⟨g, 3, none⟩ (.slice A' n' c')) := by
 refine ⟨h.os, h.tape, h.output, Nat.le_trans h.size (by simp [World.setCell]), fun k hk hp => ?_, fun _ _ _ _ hr => (h.rd _ _ _ _ hr).sputH x⟩
 have hne : k ≠ g := fun e => by
  rcases hg with hg | hg
  ·exact hp (by rw [e]; exact hg)
  ·omega
 exact ((Below.heap_setCell _ _ _ k hne).trans (Below.heap_setCell _ _ _ k hne)).trans (h.block k hk hp)
theorem Fr.putC (h : Fr P W w) (hg : P g ∨ W.heap.size ≤ g) (x : Cx w g v t) : Fr P W (w.setCell ⟨g, 0, none⟩ v') := by
 refine ⟨h.os, h.tape, h.output, Nat.le_trans h.size (by simp [World.setCell]), fun k hk hp => ?_, fun _ _ _ _ hr => (h.rd _ _ _ _ hr).sputC x⟩
 have hne : k ≠ g := fun e => by
  rcases hg with hg | hg
  ·exact hp (by rw [e]; exact hg)
  ·omega
 exact (Below.heap_setCell _ _ _ k hne).trans (h.block k hk hp)
end
def OuK (w : World) (X Y : Int) (k : Nat) (e : Ending) (w' : World) : Prop := ∃ A n c A2 n2 c2, e = .returned (.agg #[.bool (ngB X), .slice A n c, .bool (ngB Y), .slice A2 n2 c2]) ∧ Zn w' A n c X k ∧ Zn w' A2 n2 c2 Y k ∧ Below w.heap.size w w'
def OuF (P : Nat → Prop) (w : World) (X Y : Int) (k : Nat) (e : Ending) (w' : World) : Prop := ∃ A n c A2 n2 c2, e = .returned (.agg #[.bool (ngB X), .slice A n c, .bool (ngB Y), .slice A2 n2 c2]) ∧ Zn w' A n c X k ∧ Zn w' A2 n2 c2 Y k ∧ Fr P w w'
theorem sgnK (X : Int) : (sgnI X = -1 ∧ X < 0) ∨ (sgnI X = 0 ∧ X = 0) ∨ (sgnI X = 1 ∧ 0 < X) := by
 unfold sgnI
 split
 ·rename_i h; exact .inl ⟨rfl, h⟩
 ·split
  ·rename_i h; exact .inr (.inl ⟨rfl, h⟩)
  ·exact .inr (.inr ⟨rfl, by omega⟩)
end Go.Proofs.YtdonaominffpnaaGreatDoor
