/-
  New boxes and stores in few words.
-/
import Derived.Test.YtnidohbbimfpjaaPc
namespace Go.Proofs.Ytnidohbbimfpjaa
open Go.RowKit
set_option linter.unusedVariables false

/-- Of what was there block g alone has turned, and no limb lay in it. -/
structure Sto (W : World) (g : Nat) (v : World) : Prop where
  os : v.os = W.os
  tape : v.tape = W.tape
  output : v.output = W.output
  size : v.heap.size = W.heap.size
  block : ∀ k, k ≠ g → v.heap[k]? = W.heap[k]?
  limb : ∀ (d o : Nat) (x : Int), W.cell? ⟨d, o, none⟩ = some (.int .u64 x) → v.cell? ⟨d, o, none⟩ = W.cell? ⟨d, o, none⟩
/-- No limb lies in block g. -/
def Nl (W : World) (g : Nat) : Prop := ∀ (o : Nat) (x : Int), W.cell? ⟨g, o, none⟩ ≠ some (.int .u64 x)
theorem nl_of {W : World} {g : Nat} {cs : Array Value} {t : TypeId} (h : W.heap[g]? = some (.cells cs t (0, 0))) (hn : ∀ (i : Nat) (y : Int), cs[i]? ≠ some (.int .u64 y)) : Nl W g := fun o x hx => by
  rw [cell_of_row W g o cs t (0, 0) h] at hx
  exact hn o x hx
theorem Sto.refl (W : World) (g : Nat) : Sto W g W := ⟨rfl, rfl, rfl, rfl, fun _ _ => rfl, fun _ _ _ _ => rfl⟩
theorem Sto.set {W v : World} {g i : Nat} {u : Value} (s : Sto W g v) (hN : Nl W g) : Sto W g (v.setCell ⟨g, i, none⟩ u) :=
  have hb := (Below.refl 0 v).setCell (p := ⟨g, i, none⟩) (Nat.zero_le g) u
  ⟨hb.os.trans s.os, hb.tape.trans s.tape, hb.output.trans s.output, by rw [← s.size]; simp [World.setCell], fun k hk => (Below.heap_setCell _ _ _ k hk).trans (s.block k hk), fun d o x hx => by
    have hd : d ≠ g := fun e => hN o x (by rw [← e]; exact hx)
    rw [World.cell?_setCell_other _ _ _ _ (fun e => hd (by injection e with e1; exact e1.symm)), s.limb d o x hx]⟩
/-- A fact p of W that becomes q of v, where s is paid. -/
class Ms (p : Prop) (W v : World) (g : Nat) (s q : outParam Prop) : Prop where
  ms : Sto W g v → s → p → q
section
variable {W v w0 : World} {g h : Nat} {b p : Bool} {A B : Option Addr} {n c m d k : Nat} {e X : Int}
instance : Ms (Bx W h b A n c) W v g (h ≠ g) (Bx v h b A n c) := ⟨fun s hg x => (s.block h hg).trans x⟩
instance : Ms (Below w0.heap.size w0 W) W v g (w0.heap.size ≤ g) (Below w0.heap.size w0 v) :=
  ⟨fun s hg x => ⟨s.os.trans x.os, s.tape.trans x.tape, s.output.trans x.output, by rw [s.size]; exact x.size, fun k hk => (s.block k (by omega)).trans (x.block k hk)⟩⟩
theorem Rd.sto {l : List Int} (r : Rd W W.heap.size A n c l) (s : Sto W g v) : Rd v v.heap.size A n c l := by
  rw [s.size]
  refine ⟨r.1, r.2.1, r.2.2.1, r.2.2.2.1, fun hn => ?_⟩
  obtain ⟨b, off, e, hb, hc⟩ := r.at_ hn
  exact ⟨b, off, e, hb, fun k hk => by rw [s.limb _ _ _ (hc k hk)]; exact hc k hk⟩
instance {l : List Int} : Ms (Rd W W.heap.size A n c l) W v g True (Rd v v.heap.size A n c l) := ⟨fun s _ r => r.sto s⟩
instance : Ms (Zr W b A n c X k) W v g True (Zr v b A n c X k) := ⟨fun s _ r => by
  obtain ⟨l, h1, h2, h3⟩ := r
  exact ⟨l, h1.sto s, h2, h3⟩⟩
instance : Ms (Zn W A n c X k) W v g True (Zn v A n c X k) := ⟨fun s _ r => ⟨r.1.sto s, r.2⟩⟩
instance : Mv (Below w0.heap.size w0 W) W v (Below w0.heap.size w0 v) := ⟨fun x y => bthen x y⟩
end
theorem ms1 {p0 s0 q0 : Prop} {W v : World} {g : Nat} [Ms p0 W v g s0 q0] (hs : Sto W g v) (t : s0) (f0 : p0) : q0 := Ms.ms hs t f0
theorem ms2 {p0 s0 q0 p1 s1 q1 : Prop} {W v : World} {g : Nat} [Ms p0 W v g s0 q0] [Ms p1 W v g s1 q1] (hs : Sto W g v) (t : s0 ∧ s1) (f0 : p0) (f1 : p1) : q0 ∧ q1 := ⟨Ms.ms hs t.1 f0, Ms.ms hs t.2 f1⟩
theorem ms3 {p0 s0 q0 p1 s1 q1 p2 s2 q2 : Prop} {W v : World} {g : Nat} [Ms p0 W v g s0 q0] [Ms p1 W v g s1 q1] [Ms p2 W v g s2 q2] (hs : Sto W g v) (t : s0 ∧ s1 ∧ s2) (f0 : p0) (f1 : p1) (f2 : p2) : q0 ∧ q1 ∧ q2 := ⟨Ms.ms hs t.1 f0, Ms.ms hs t.2.1 f1, Ms.ms hs t.2.2 f2⟩
theorem ms4 {p0 s0 q0 p1 s1 q1 p2 s2 q2 p3 s3 q3 : Prop} {W v : World} {g : Nat} [Ms p0 W v g s0 q0] [Ms p1 W v g s1 q1] [Ms p2 W v g s2 q2] [Ms p3 W v g s3 q3] (hs : Sto W g v) (t : s0 ∧ s1 ∧ s2 ∧ s3) (f0 : p0) (f1 : p1) (f2 : p2) (f3 : p3) : q0 ∧ q1 ∧ q2 ∧ q3 := ⟨Ms.ms hs t.1 f0, Ms.ms hs t.2.1 f1, Ms.ms hs t.2.2.1 f2, Ms.ms hs t.2.2.2 f3⟩
theorem ms5 {p0 s0 q0 p1 s1 q1 p2 s2 q2 p3 s3 q3 p4 s4 q4 : Prop} {W v : World} {g : Nat} [Ms p0 W v g s0 q0] [Ms p1 W v g s1 q1] [Ms p2 W v g s2 q2] [Ms p3 W v g s3 q3] [Ms p4 W v g s4 q4] (hs : Sto W g v) (t : s0 ∧ s1 ∧ s2 ∧ s3 ∧ s4) (f0 : p0) (f1 : p1) (f2 : p2) (f3 : p3) (f4 : p4) : q0 ∧ q1 ∧ q2 ∧ q3 ∧ q4 := ⟨Ms.ms hs t.1 f0, Ms.ms hs t.2.1 f1, Ms.ms hs t.2.2.1 f2, Ms.ms hs t.2.2.2.1 f3, Ms.ms hs t.2.2.2.2 f4⟩
theorem ms6 {p0 s0 q0 p1 s1 q1 p2 s2 q2 p3 s3 q3 p4 s4 q4 p5 s5 q5 : Prop} {W v : World} {g : Nat} [Ms p0 W v g s0 q0] [Ms p1 W v g s1 q1] [Ms p2 W v g s2 q2] [Ms p3 W v g s3 q3] [Ms p4 W v g s4 q4] [Ms p5 W v g s5 q5] (hs : Sto W g v) (t : s0 ∧ s1 ∧ s2 ∧ s3 ∧ s4 ∧ s5) (f0 : p0) (f1 : p1) (f2 : p2) (f3 : p3) (f4 : p4) (f5 : p5) : q0 ∧ q1 ∧ q2 ∧ q3 ∧ q4 ∧ q5 := ⟨Ms.ms hs t.1 f0, Ms.ms hs t.2.1 f1, Ms.ms hs t.2.2.1 f2, Ms.ms hs t.2.2.2.1 f3, Ms.ms hs t.2.2.2.2.1 f4, Ms.ms hs t.2.2.2.2.2 f5⟩
theorem ms7 {p0 s0 q0 p1 s1 q1 p2 s2 q2 p3 s3 q3 p4 s4 q4 p5 s5 q5 p6 s6 q6 : Prop} {W v : World} {g : Nat} [Ms p0 W v g s0 q0] [Ms p1 W v g s1 q1] [Ms p2 W v g s2 q2] [Ms p3 W v g s3 q3] [Ms p4 W v g s4 q4] [Ms p5 W v g s5 q5] [Ms p6 W v g s6 q6] (hs : Sto W g v) (t : s0 ∧ s1 ∧ s2 ∧ s3 ∧ s4 ∧ s5 ∧ s6) (f0 : p0) (f1 : p1) (f2 : p2) (f3 : p3) (f4 : p4) (f5 : p5) (f6 : p6) : q0 ∧ q1 ∧ q2 ∧ q3 ∧ q4 ∧ q5 ∧ q6 := ⟨Ms.ms hs t.1 f0, Ms.ms hs t.2.1 f1, Ms.ms hs t.2.2.1 f2, Ms.ms hs t.2.2.2.1 f3, Ms.ms hs t.2.2.2.2.1 f4, Ms.ms hs t.2.2.2.2.2.1 f5, Ms.ms hs t.2.2.2.2.2.2 f6⟩
theorem ms8 {p0 s0 q0 p1 s1 q1 p2 s2 q2 p3 s3 q3 p4 s4 q4 p5 s5 q5 p6 s6 q6 p7 s7 q7 : Prop} {W v : World} {g : Nat} [Ms p0 W v g s0 q0] [Ms p1 W v g s1 q1] [Ms p2 W v g s2 q2] [Ms p3 W v g s3 q3] [Ms p4 W v g s4 q4] [Ms p5 W v g s5 q5] [Ms p6 W v g s6 q6] [Ms p7 W v g s7 q7] (hs : Sto W g v) (t : s0 ∧ s1 ∧ s2 ∧ s3 ∧ s4 ∧ s5 ∧ s6 ∧ s7) (f0 : p0) (f1 : p1) (f2 : p2) (f3 : p3) (f4 : p4) (f5 : p5) (f6 : p6) (f7 : p7) : q0 ∧ q1 ∧ q2 ∧ q3 ∧ q4 ∧ q5 ∧ q6 ∧ q7 := ⟨Ms.ms hs t.1 f0, Ms.ms hs t.2.1 f1, Ms.ms hs t.2.2.1 f2, Ms.ms hs t.2.2.2.1 f3, Ms.ms hs t.2.2.2.2.1 f4, Ms.ms hs t.2.2.2.2.2.1 f5, Ms.ms hs t.2.2.2.2.2.2.1 f6, Ms.ms hs t.2.2.2.2.2.2.2 f7⟩
theorem ms9 {p0 s0 q0 p1 s1 q1 p2 s2 q2 p3 s3 q3 p4 s4 q4 p5 s5 q5 p6 s6 q6 p7 s7 q7 p8 s8 q8 : Prop} {W v : World} {g : Nat} [Ms p0 W v g s0 q0] [Ms p1 W v g s1 q1] [Ms p2 W v g s2 q2] [Ms p3 W v g s3 q3] [Ms p4 W v g s4 q4] [Ms p5 W v g s5 q5] [Ms p6 W v g s6 q6] [Ms p7 W v g s7 q7] [Ms p8 W v g s8 q8] (hs : Sto W g v) (t : s0 ∧ s1 ∧ s2 ∧ s3 ∧ s4 ∧ s5 ∧ s6 ∧ s7 ∧ s8) (f0 : p0) (f1 : p1) (f2 : p2) (f3 : p3) (f4 : p4) (f5 : p5) (f6 : p6) (f7 : p7) (f8 : p8) : q0 ∧ q1 ∧ q2 ∧ q3 ∧ q4 ∧ q5 ∧ q6 ∧ q7 ∧ q8 := ⟨Ms.ms hs t.1 f0, Ms.ms hs t.2.1 f1, Ms.ms hs t.2.2.1 f2, Ms.ms hs t.2.2.2.1 f3, Ms.ms hs t.2.2.2.2.1 f4, Ms.ms hs t.2.2.2.2.2.1 f5, Ms.ms hs t.2.2.2.2.2.2.1 f6, Ms.ms hs t.2.2.2.2.2.2.2.1 f7, Ms.ms hs t.2.2.2.2.2.2.2.2 f8⟩
theorem ms10 {p0 s0 q0 p1 s1 q1 p2 s2 q2 p3 s3 q3 p4 s4 q4 p5 s5 q5 p6 s6 q6 p7 s7 q7 p8 s8 q8 p9 s9 q9 : Prop} {W v : World} {g : Nat} [Ms p0 W v g s0 q0] [Ms p1 W v g s1 q1] [Ms p2 W v g s2 q2] [Ms p3 W v g s3 q3] [Ms p4 W v g s4 q4] [Ms p5 W v g s5 q5] [Ms p6 W v g s6 q6] [Ms p7 W v g s7 q7] [Ms p8 W v g s8 q8] [Ms p9 W v g s9 q9] (hs : Sto W g v) (t : s0 ∧ s1 ∧ s2 ∧ s3 ∧ s4 ∧ s5 ∧ s6 ∧ s7 ∧ s8 ∧ s9) (f0 : p0) (f1 : p1) (f2 : p2) (f3 : p3) (f4 : p4) (f5 : p5) (f6 : p6) (f7 : p7) (f8 : p8) (f9 : p9) : q0 ∧ q1 ∧ q2 ∧ q3 ∧ q4 ∧ q5 ∧ q6 ∧ q7 ∧ q8 ∧ q9 := ⟨Ms.ms hs t.1 f0, Ms.ms hs t.2.1 f1, Ms.ms hs t.2.2.1 f2, Ms.ms hs t.2.2.2.1 f3, Ms.ms hs t.2.2.2.2.1 f4, Ms.ms hs t.2.2.2.2.2.1 f5, Ms.ms hs t.2.2.2.2.2.2.1 f6, Ms.ms hs t.2.2.2.2.2.2.2.1 f7, Ms.ms hs t.2.2.2.2.2.2.2.2.1 f8, Ms.ms hs t.2.2.2.2.2.2.2.2.2 f9⟩
theorem ms11 {p0 s0 q0 p1 s1 q1 p2 s2 q2 p3 s3 q3 p4 s4 q4 p5 s5 q5 p6 s6 q6 p7 s7 q7 p8 s8 q8 p9 s9 q9 p10 s10 q10 : Prop} {W v : World} {g : Nat} [Ms p0 W v g s0 q0] [Ms p1 W v g s1 q1] [Ms p2 W v g s2 q2] [Ms p3 W v g s3 q3] [Ms p4 W v g s4 q4] [Ms p5 W v g s5 q5] [Ms p6 W v g s6 q6] [Ms p7 W v g s7 q7] [Ms p8 W v g s8 q8] [Ms p9 W v g s9 q9] [Ms p10 W v g s10 q10] (hs : Sto W g v) (t : s0 ∧ s1 ∧ s2 ∧ s3 ∧ s4 ∧ s5 ∧ s6 ∧ s7 ∧ s8 ∧ s9 ∧ s10) (f0 : p0) (f1 : p1) (f2 : p2) (f3 : p3) (f4 : p4) (f5 : p5) (f6 : p6) (f7 : p7) (f8 : p8) (f9 : p9) (f10 : p10) : q0 ∧ q1 ∧ q2 ∧ q3 ∧ q4 ∧ q5 ∧ q6 ∧ q7 ∧ q8 ∧ q9 ∧ q10 := ⟨Ms.ms hs t.1 f0, Ms.ms hs t.2.1 f1, Ms.ms hs t.2.2.1 f2, Ms.ms hs t.2.2.2.1 f3, Ms.ms hs t.2.2.2.2.1 f4, Ms.ms hs t.2.2.2.2.2.1 f5, Ms.ms hs t.2.2.2.2.2.2.1 f6, Ms.ms hs t.2.2.2.2.2.2.2.1 f7, Ms.ms hs t.2.2.2.2.2.2.2.2.1 f8, Ms.ms hs t.2.2.2.2.2.2.2.2.2.1 f9, Ms.ms hs t.2.2.2.2.2.2.2.2.2.2 f10⟩
theorem ms12 {p0 s0 q0 p1 s1 q1 p2 s2 q2 p3 s3 q3 p4 s4 q4 p5 s5 q5 p6 s6 q6 p7 s7 q7 p8 s8 q8 p9 s9 q9 p10 s10 q10 p11 s11 q11 : Prop} {W v : World} {g : Nat} [Ms p0 W v g s0 q0] [Ms p1 W v g s1 q1] [Ms p2 W v g s2 q2] [Ms p3 W v g s3 q3] [Ms p4 W v g s4 q4] [Ms p5 W v g s5 q5] [Ms p6 W v g s6 q6] [Ms p7 W v g s7 q7] [Ms p8 W v g s8 q8] [Ms p9 W v g s9 q9] [Ms p10 W v g s10 q10] [Ms p11 W v g s11 q11] (hs : Sto W g v) (t : s0 ∧ s1 ∧ s2 ∧ s3 ∧ s4 ∧ s5 ∧ s6 ∧ s7 ∧ s8 ∧ s9 ∧ s10 ∧ s11) (f0 : p0) (f1 : p1) (f2 : p2) (f3 : p3) (f4 : p4) (f5 : p5) (f6 : p6) (f7 : p7) (f8 : p8) (f9 : p9) (f10 : p10) (f11 : p11) : q0 ∧ q1 ∧ q2 ∧ q3 ∧ q4 ∧ q5 ∧ q6 ∧ q7 ∧ q8 ∧ q9 ∧ q10 ∧ q11 := ⟨Ms.ms hs t.1 f0, Ms.ms hs t.2.1 f1, Ms.ms hs t.2.2.1 f2, Ms.ms hs t.2.2.2.1 f3, Ms.ms hs t.2.2.2.2.1 f4, Ms.ms hs t.2.2.2.2.2.1 f5, Ms.ms hs t.2.2.2.2.2.2.1 f6, Ms.ms hs t.2.2.2.2.2.2.2.1 f7, Ms.ms hs t.2.2.2.2.2.2.2.2.1 f8, Ms.ms hs t.2.2.2.2.2.2.2.2.2.1 f9, Ms.ms hs t.2.2.2.2.2.2.2.2.2.2.1 f10, Ms.ms hs t.2.2.2.2.2.2.2.2.2.2.2 f11⟩
/-- A new block at the end. -/
theorem al1 {F : World → Prop} {w : World} {o : Obj} (h : ∀ v, Below w.heap.size w v → v.heap[w.heap.size]? = some o → F v) : F (w.alloc o) := h _ (below_alloc w o) (heap_alloc_new w o)
theorem al2 {F : World → Prop} {w : World} {o p : Obj} (h : ∀ v, Below w.heap.size w v → v.heap[w.heap.size]? = some o → v.heap[w.heap.size + 1]? = some p → F v) : F ((w.alloc o).alloc p) :=
  h _ (below_alloc2 w o p) ((Below.heap_alloc _ _ _ (by simp)).trans (heap_alloc_new w o)) (by have := heap_alloc_new (w.alloc o) p; simpa using this)
theorem al3 {F : World → Prop} {w : World} {o p q : Obj} (h : ∀ v, Below w.heap.size w v → v.heap[w.heap.size]? = some o → v.heap[w.heap.size + 1]? = some p → v.heap[w.heap.size + 1 + 1]? = some q → F v) : F (((w.alloc o).alloc p).alloc q) :=
  h _ (below_alloc3 w o p q) ((Below.heap_alloc _ _ _ (by simp; omega)).trans ((Below.heap_alloc _ _ _ (by simp)).trans (heap_alloc_new w o))) ((Below.heap_alloc _ _ _ (by simp)).trans (by have := heap_alloc_new (w.alloc o) p; simpa using this)) (by have := heap_alloc_new ((w.alloc o).alloc p) q; simpa using this)
theorem al4 {F : World → Prop} {w : World} {o p q r : Obj} (h : ∀ v, Below w.heap.size w v → v.heap[w.heap.size]? = some o → v.heap[w.heap.size + 1]? = some p → v.heap[w.heap.size + 1 + 1]? = some q → v.heap[w.heap.size + 1 + 1 + 1]? = some r → F v) : F ((((w.alloc o).alloc p).alloc q).alloc r) :=
  have a : ∀ (k : Nat) (u : World) (x y : Obj), k < u.heap.size → u.heap[k]? = some y → (u.alloc x).heap[k]? = some y := fun k u x y hk hy => (Below.heap_alloc _ _ _ hk).trans hy
  h _ ((below_alloc3 w o p q).trans ((below_alloc _ r).mono (by simp; omega))) (a _ _ _ _ (by simp; omega) (a _ _ _ _ (by simp; omega) (a _ _ _ _ (by simp) (heap_alloc_new w o)))) (a _ _ _ _ (by simp) (a _ _ _ _ (by simp) (by have := heap_alloc_new (w.alloc o) p; simpa using this))) (a _ _ _ _ (by simp) (by have := heap_alloc_new ((w.alloc o).alloc p) q; simpa using this)) (by have := heap_alloc_new (((w.alloc o).alloc p).alloc q) r; simpa using this)
theorem al1c {P : Program} {f : Nat} {a : Array Value} {Q : Ending → World → Prop} {w : World} {o : Obj} (h : ∀ v, Below w.heap.size w v → v.heap[w.heap.size]? = some o → Calls P f a v Q) : Calls P f a (w.alloc o) Q := al1 (F := fun v => Calls P f a v Q) h
theorem al2c {P : Program} {f : Nat} {a : Array Value} {Q : Ending → World → Prop} {w : World} {o p : Obj} (h : ∀ v, Below w.heap.size w v → v.heap[w.heap.size]? = some o → v.heap[w.heap.size + 1]? = some p → Calls P f a v Q) : Calls P f a ((w.alloc o).alloc p) Q := al2 (F := fun v => Calls P f a v Q) h
theorem al3c {P : Program} {f : Nat} {a : Array Value} {Q : Ending → World → Prop} {w : World} {o p q : Obj} (h : ∀ v, Below w.heap.size w v → v.heap[w.heap.size]? = some o → v.heap[w.heap.size + 1]? = some p → v.heap[w.heap.size + 1 + 1]? = some q → Calls P f a v Q) : Calls P f a (((w.alloc o).alloc p).alloc q) Q := al3 (F := fun v => Calls P f a v Q) h
theorem al4c {P : Program} {f : Nat} {a : Array Value} {Q : Ending → World → Prop} {w : World} {o p q r : Obj} (h : ∀ v, Below w.heap.size w v → v.heap[w.heap.size]? = some o → v.heap[w.heap.size + 1]? = some p → v.heap[w.heap.size + 1 + 1]? = some q → v.heap[w.heap.size + 1 + 1 + 1]? = some r → Calls P f a v Q) : Calls P f a ((((w.alloc o).alloc p).alloc q).alloc r) Q := al4 (F := fun v => Calls P f a v Q) h
theorem Bx.of {w : World} {g : Nat} {b : Bool} {A : Option Addr} {n c : Nat} (h : w.heap[g]? = some (.cells #[.bool b, .slice A n c] 32 (0, 0))) : Bx w g b A n c := h
/-- A store into a box. -/
theorem Bx.st {F : World → Prop} {W : World} {g : Nat} {b : Bool} {A : Option Addr} {n : Nat} {c : Nat} (x : Bx W g b A n c) {b' : Bool} {A' : Option Addr} {n' : Nat} {c' : Nat}
    (h : ∀ v, Sto W g v → Bx v g b' A' n' c' → F v) : F ((W.setCell ⟨g, 0, none⟩ (.bool b')).setCell ⟨g, 1, none⟩ (.slice A' n' c')) :=
  have N : Nl W g := nl_of x fun i y => by rcases i with _ | _ | i <;> simp
  h _ (((Sto.refl W g).set N).set N) (x.put _ _ _ _)
theorem Bx.stc {P : Program} {f : Nat} {a : Array Value} {Q : Ending → World → Prop} {W : World} {g : Nat} {b : Bool} {A : Option Addr} {n : Nat} {c : Nat} (x : Bx W g b A n c) {b' : Bool} {A' : Option Addr} {n' : Nat} {c' : Nat}
    (h : ∀ v, Sto W g v → Bx v g b' A' n' c' → Calls P f a v Q) : Calls P f a ((W.setCell ⟨g, 0, none⟩ (.bool b')).setCell ⟨g, 1, none⟩ (.slice A' n' c')) Q := x.st (F := fun v => Calls P f a v Q) h
/-- Two boxes written one behind the other. -/
theorem Bx.st2 {F : World → Prop} {W : World} {g h : Nat} {b : Bool} {A : Option Addr} {n c : Nat} {b1 : Bool} {A1 : Option Addr} {n1 c1 : Nat} (x : Bx W g b A n c) (y : Bx W h b1 A1 n1 c1) (e : h ≠ g) {b' : Bool} {A' : Option Addr} {n' c' : Nat} {b2 : Bool} {A2 : Option Addr} {n2 c2 : Nat}
    (k : ∀ v u, Sto W g v → Sto v h u → Bx u g b' A' n' c' → Bx u h b2 A2 n2 c2 → F u) : F ((((W.setCell ⟨g, 0, none⟩ (.bool b')).setCell ⟨g, 1, none⟩ (.slice A' n' c')).setCell ⟨h, 0, none⟩ (.bool b2)).setCell ⟨h, 1, none⟩ (.slice A2 n2 c2)) :=
  x.st (F := fun v => F ((v.setCell ⟨h, 0, none⟩ (.bool b2)).setCell ⟨h, 1, none⟩ (.slice A2 n2 c2))) fun v s hx =>
    Bx.st (F := F) (Ms.ms s e y) fun u s' hy => k v u s s' (Ms.ms s' e.symm hx) hy
theorem Bx.st2c {P : Program} {f : Nat} {a : Array Value} {Q : Ending → World → Prop} {W : World} {g h : Nat} {b : Bool} {A : Option Addr} {n c : Nat} {b1 : Bool} {A1 : Option Addr} {n1 c1 : Nat} (x : Bx W g b A n c) (y : Bx W h b1 A1 n1 c1) (e : h ≠ g) {b' : Bool} {A' : Option Addr} {n' c' : Nat} {b2 : Bool} {A2 : Option Addr} {n2 c2 : Nat}
    (k : ∀ v u, Sto W g v → Sto v h u → Bx u g b' A' n' c' → Bx u h b2 A2 n2 c2 → Calls P f a u Q) : Calls P f a ((((W.setCell ⟨g, 0, none⟩ (.bool b')).setCell ⟨g, 1, none⟩ (.slice A' n' c')).setCell ⟨h, 0, none⟩ (.bool b2)).setCell ⟨h, 1, none⟩ (.slice A2 n2 c2)) Q := x.st2 (F := fun v => Calls P f a v Q) y e k
end Go.Proofs.Ytnidohbbimfpjaa
