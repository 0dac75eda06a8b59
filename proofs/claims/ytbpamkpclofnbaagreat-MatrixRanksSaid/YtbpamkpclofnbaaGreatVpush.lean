/-
  append of an integer to a slice of integers that the call itself has made.
-/
import Derived.Test.YtbpamkpclofnbaaGreatPc
import Derived.Deep.DeepCutAuto
import Derived.Shelf.Abstract
import Derived.Laws.AppendOwn
namespace Go.Proofs.YtbpamkpclofnbaaGreat
open Go.RowKit
set_option linter.unusedVariables false

/-- Of what was there block g alone has turned, and no limb lay in it. -/
structure Sto (W : World) (g : Nat) (v : World) : Prop where
  os : v.os = W.os
  tape : v.tape = W.tape
  output : v.output = W.output
  size : v.heap.size = W.heap.size
  block : ∀ k, k ≠ g → v.heap[k]? = W.heap[k]?
  limb : ∀ (d o : Nat) (x : Int), W.cell? ⟨d, o, none⟩ = some (.int .u64 x) → v.cell? ⟨d, o, none⟩ = W.cell? ⟨d, o, none⟩
/-- No limb lies in block g. -/
def Nl (W : World) (g : Nat) : Prop := ∀ (o : Nat) (x : Int), W.cell? ⟨g, o, none⟩ ≠ some (.int .u64 x)
theorem nl_of {W : World} {g : Nat} {cs : Array Value} {t : TypeId} (h : W.heap[g]? = some (.cells cs t (0, 0))) (hn : ∀ (i : Nat) (y : Int), cs[i]? ≠ some (.int .u64 y)) : Nl W g := fun o x hx => by
  rw [cell_of_row W g o cs t (0, 0) h] at hx
  exact hn o x hx
theorem Sto.refl (W : World) (g : Nat) : Sto W g W := ⟨rfl, rfl, rfl, rfl, fun _ _ => rfl, fun _ _ _ _ => rfl⟩
theorem Sto.set {W v : World} {g i : Nat} {u : Value} (s : Sto W g v) (hN : Nl W g) : Sto W g (v.setCell ⟨g, i, none⟩ u) :=
  have hb := (Below.refl 0 v).setCell (p := ⟨g, i, none⟩) (Nat.zero_le g) u
  ⟨hb.os.trans s.os, hb.tape.trans s.tape, hb.output.trans s.output, by rw [← s.size]; simp [World.setCell], fun k hk => (Below.heap_setCell _ _ _ k hk).trans (s.block k hk), fun d o x hx => by
    have hd : d ≠ g := fun e => hN o x (by rw [← e]; exact hx)
    rw [World.cell?_setCell_other _ _ _ _ (fun e => hd (by injection e with e1; exact e1.symm)), s.limb d o x hx]⟩
/-- A fact p of W that becomes q of v, where s is paid. -/
class Ms (p : Prop) (W v : World) (g : Nat) (s q : outParam Prop) : Prop where
  ms : Sto W g v → s → p → q
section
variable {W v w0 : World} {g h : Nat} {b p : Bool} {A B : Option Addr} {n c m d k : Nat} {e X : Int}
instance : Ms (Bx W h b A n c) W v g (h ≠ g) (Bx v h b A n c) := ⟨fun s hg x => (s.block h hg).trans x⟩
instance : Ms (Below w0.heap.size w0 W) W v g (w0.heap.size ≤ g) (Below w0.heap.size w0 v) :=
  ⟨fun s hg x => ⟨s.os.trans x.os, s.tape.trans x.tape, s.output.trans x.output, by rw [s.size]; exact x.size, fun k hk => (s.block k (by omega)).trans (x.block k hk)⟩⟩
theorem Rd.sto {l : List Int} (r : Rd W W.heap.size A n c l) (s : Sto W g v) : Rd v v.heap.size A n c l := by
  rw [s.size]
  refine ⟨r.1, r.2.1, r.2.2.1, r.2.2.2.1, fun hn => ?_⟩
  obtain ⟨b, off, e, hb, hc⟩ := r.at_ hn
  exact ⟨b, off, e, hb, fun k hk => by rw [s.limb _ _ _ (hc k hk)]; exact hc k hk⟩
instance {l : List Int} : Ms (Rd W W.heap.size A n c l) W v g True (Rd v v.heap.size A n c l) := ⟨fun s _ r => r.sto s⟩
instance : Ms (Zr W b A n c X k) W v g True (Zr v b A n c X k) := ⟨fun s _ r => by
  obtain ⟨l, h1, h2, h3⟩ := r
  exact ⟨l, h1.sto s, h2, h3⟩⟩
instance : Ms (Zn W A n c X k) W v g True (Zn v A n c X k) := ⟨fun s _ r => ⟨r.1.sto s, r.2⟩⟩
instance : Mv (Below w0.heap.size w0 W) W v (Below w0.heap.size w0 v) := ⟨fun x y => bthen x y⟩
end
theorem ms1 {p0 s0 q0 : Prop} {W v : World} {g : Nat} [Ms p0 W v g s0 q0] (hs : Sto W g v) (t : s0) (f0 : p0) : q0 := Ms.ms hs t f0
theorem ms3 {p0 s0 q0 p1 s1 q1 p2 s2 q2 : Prop} {W v : World} {g : Nat} [Ms p0 W v g s0 q0] [Ms p1 W v g s1 q1] [Ms p2 W v g s2 q2] (hs : Sto W g v) (t : s0 ∧ s1 ∧ s2) (f0 : p0) (f1 : p1) (f2 : p2) : q0 ∧ q1 ∧ q2 := ⟨Ms.ms hs t.1 f0, Ms.ms hs t.2.1 f1, Ms.ms hs t.2.2 f2⟩
theorem ms4 {p0 s0 q0 p1 s1 q1 p2 s2 q2 p3 s3 q3 : Prop} {W v : World} {g : Nat} [Ms p0 W v g s0 q0] [Ms p1 W v g s1 q1] [Ms p2 W v g s2 q2] [Ms p3 W v g s3 q3] (hs : Sto W g v) (t : s0 ∧ s1 ∧ s2 ∧ s3) (f0 : p0) (f1 : p1) (f2 : p2) (f3 : p3) : q0 ∧ q1 ∧ q2 ∧ q3 := ⟨Ms.ms hs t.1 f0, Ms.ms hs t.2.1 f1, Ms.ms hs t.2.2.1 f2, Ms.ms hs t.2.2.2 f3⟩
theorem ms5 {p0 s0 q0 p1 s1 q1 p2 s2 q2 p3 s3 q3 p4 s4 q4 : Prop} {W v : World} {g : Nat} [Ms p0 W v g s0 q0] [Ms p1 W v g s1 q1] [Ms p2 W v g s2 q2] [Ms p3 W v g s3 q3] [Ms p4 W v g s4 q4] (hs : Sto W g v) (t : s0 ∧ s1 ∧ s2 ∧ s3 ∧ s4) (f0 : p0) (f1 : p1) (f2 : p2) (f3 : p3) (f4 : p4) : q0 ∧ q1 ∧ q2 ∧ q3 ∧ q4 := ⟨Ms.ms hs t.1 f0, Ms.ms hs t.2.1 f1, Ms.ms hs t.2.2.1 f2, Ms.ms hs t.2.2.2.1 f3, Ms.ms hs t.2.2.2.2 f4⟩
theorem ms6 {p0 s0 q0 p1 s1 q1 p2 s2 q2 p3 s3 q3 p4 s4 q4 p5 s5 q5 : Prop} {W v : World} {g : Nat} [Ms p0 W v g s0 q0] [Ms p1 W v g s1 q1] [Ms p2 W v g s2 q2] [Ms p3 W v g s3 q3] [Ms p4 W v g s4 q4] [Ms p5 W v g s5 q5] (hs : Sto W g v) (t : s0 ∧ s1 ∧ s2 ∧ s3 ∧ s4 ∧ s5) (f0 : p0) (f1 : p1) (f2 : p2) (f3 : p3) (f4 : p4) (f5 : p5) : q0 ∧ q1 ∧ q2 ∧ q3 ∧ q4 ∧ q5 := ⟨Ms.ms hs t.1 f0, Ms.ms hs t.2.1 f1, Ms.ms hs t.2.2.1 f2, Ms.ms hs t.2.2.2.1 f3, Ms.ms hs t.2.2.2.2.1 f4, Ms.ms hs t.2.2.2.2.2 f5⟩
theorem ms7 {p0 s0 q0 p1 s1 q1 p2 s2 q2 p3 s3 q3 p4 s4 q4 p5 s5 q5 p6 s6 q6 : Prop} {W v : World} {g : Nat} [Ms p0 W v g s0 q0] [Ms p1 W v g s1 q1] [Ms p2 W v g s2 q2] [Ms p3 W v g s3 q3] [Ms p4 W v g s4 q4] [Ms p5 W v g s5 q5] [Ms p6 W v g s6 q6] (hs : Sto W g v) (t : s0 ∧ s1 ∧ s2 ∧ s3 ∧ s4 ∧ s5 ∧ s6) (f0 : p0) (f1 : p1) (f2 : p2) (f3 : p3) (f4 : p4) (f5 : p5) (f6 : p6) : q0 ∧ q1 ∧ q2 ∧ q3 ∧ q4 ∧ q5 ∧ q6 := ⟨Ms.ms hs t.1 f0, Ms.ms hs t.2.1 f1, Ms.ms hs t.2.2.1 f2, Ms.ms hs t.2.2.2.1 f3, Ms.ms hs t.2.2.2.2.1 f4, Ms.ms hs t.2.2.2.2.2.1 f5, Ms.ms hs t.2.2.2.2.2.2 f6⟩
theorem ms8 {p0 s0 q0 p1 s1 q1 p2 s2 q2 p3 s3 q3 p4 s4 q4 p5 s5 q5 p6 s6 q6 p7 s7 q7 : Prop} {W v : World} {g : Nat} [Ms p0 W v g s0 q0] [Ms p1 W v g s1 q1] [Ms p2 W v g s2 q2] [Ms p3 W v g s3 q3] [Ms p4 W v g s4 q4] [Ms p5 W v g s5 q5] [Ms p6 W v g s6 q6] [Ms p7 W v g s7 q7] (hs : Sto W g v) (t : s0 ∧ s1 ∧ s2 ∧ s3 ∧ s4 ∧ s5 ∧ s6 ∧ s7) (f0 : p0) (f1 : p1) (f2 : p2) (f3 : p3) (f4 : p4) (f5 : p5) (f6 : p6) (f7 : p7) : q0 ∧ q1 ∧ q2 ∧ q3 ∧ q4 ∧ q5 ∧ q6 ∧ q7 := ⟨Ms.ms hs t.1 f0, Ms.ms hs t.2.1 f1, Ms.ms hs t.2.2.1 f2, Ms.ms hs t.2.2.2.1 f3, Ms.ms hs t.2.2.2.2.1 f4, Ms.ms hs t.2.2.2.2.2.1 f5, Ms.ms hs t.2.2.2.2.2.2.1 f6, Ms.ms hs t.2.2.2.2.2.2.2 f7⟩
theorem ms9 {p0 s0 q0 p1 s1 q1 p2 s2 q2 p3 s3 q3 p4 s4 q4 p5 s5 q5 p6 s6 q6 p7 s7 q7 p8 s8 q8 : Prop} {W v : World} {g : Nat} [Ms p0 W v g s0 q0] [Ms p1 W v g s1 q1] [Ms p2 W v g s2 q2] [Ms p3 W v g s3 q3] [Ms p4 W v g s4 q4] [Ms p5 W v g s5 q5] [Ms p6 W v g s6 q6] [Ms p7 W v g s7 q7] [Ms p8 W v g s8 q8] (hs : Sto W g v) (t : s0 ∧ s1 ∧ s2 ∧ s3 ∧ s4 ∧ s5 ∧ s6 ∧ s7 ∧ s8) (f0 : p0) (f1 : p1) (f2 : p2) (f3 : p3) (f4 : p4) (f5 : p5) (f6 : p6) (f7 : p7) (f8 : p8) : q0 ∧ q1 ∧ q2 ∧ q3 ∧ q4 ∧ q5 ∧ q6 ∧ q7 ∧ q8 := ⟨Ms.ms hs t.1 f0, Ms.ms hs t.2.1 f1, Ms.ms hs t.2.2.1 f2, Ms.ms hs t.2.2.2.1 f3, Ms.ms hs t.2.2.2.2.1 f4, Ms.ms hs t.2.2.2.2.2.1 f5, Ms.ms hs t.2.2.2.2.2.2.1 f6, Ms.ms hs t.2.2.2.2.2.2.2.1 f7, Ms.ms hs t.2.2.2.2.2.2.2.2 f8⟩
/-- A new block at the end. -/
theorem al1 {F : World → Prop} {w : World} {o : Obj} (h : ∀ v, Below w.heap.size w v → v.heap[w.heap.size]? = some o → F v) : F (w.alloc o) := h _ (below_alloc w o) (heap_alloc_new w o)
theorem al2 {F : World → Prop} {w : World} {o p : Obj} (h : ∀ v, Below w.heap.size w v → v.heap[w.heap.size]? = some o → v.heap[w.heap.size + 1]? = some p → F v) : F ((w.alloc o).alloc p) :=
  h _ (below_alloc2 w o p) ((Below.heap_alloc _ _ _ (by simp)).trans (heap_alloc_new w o)) (by have := heap_alloc_new (w.alloc o) p; simpa using this)
theorem al3 {F : World → Prop} {w : World} {o p q : Obj} (h : ∀ v, Below w.heap.size w v → v.heap[w.heap.size]? = some o → v.heap[w.heap.size + 1]? = some p → v.heap[w.heap.size + 1 + 1]? = some q → F v) : F (((w.alloc o).alloc p).alloc q) :=
  h _ (below_alloc3 w o p q) ((Below.heap_alloc _ _ _ (by simp; omega)).trans ((Below.heap_alloc _ _ _ (by simp)).trans (heap_alloc_new w o))) ((Below.heap_alloc _ _ _ (by simp)).trans (by have := heap_alloc_new (w.alloc o) p; simpa using this)) (by have := heap_alloc_new ((w.alloc o).alloc p) q; simpa using this)
theorem al1c {P : Program} {f : Nat} {a : Array Value} {Q : Ending → World → Prop} {w : World} {o : Obj} (h : ∀ v, Below w.heap.size w v → v.heap[w.heap.size]? = some o → Calls P f a v Q) : Calls P f a (w.alloc o) Q := al1 (F := fun v => Calls P f a v Q) h
theorem Bx.of {w : World} {g : Nat} {b : Bool} {A : Option Addr} {n c : Nat} (h : w.heap[g]? = some (.cells #[.bool b, .slice A n c] 30 (0, 0))) : Bx w g b A n c := h
/-- A store into a box. -/
theorem Bx.st {F : World → Prop} {W : World} {g : Nat} {b : Bool} {A : Option Addr} {n : Nat} {c : Nat} (x : Bx W g b A n c) {b' : Bool} {A' : Option Addr} {n' : Nat} {c' : Nat}
    (h : ∀ v, Sto W g v → Bx v g b' A' n' c' → F v) : F ((W.setCell ⟨g, 0, none⟩ (.bool b')).setCell ⟨g, 1, none⟩ (.slice A' n' c')) :=
  have N : Nl W g := nl_of x fun i y => by rcases i with _ | _ | i <;> simp
  h _ (((Sto.refl W g).set N).set N) (x.put _ _ _ _)
theorem Bx.stc {P : Program} {f : Nat} {a : Array Value} {Q : Ending → World → Prop} {W : World} {g : Nat} {b : Bool} {A : Option Addr} {n : Nat} {c : Nat} (x : Bx W g b A n c) {b' : Bool} {A' : Option Addr} {n' : Nat} {c' : Nat}
    (h : ∀ v, Sto W g v → Bx v g b' A' n' c' → Calls P f a v Q) : Calls P f a ((W.setCell ⟨g, 0, none⟩ (.bool b')).setCell ⟨g, 1, none⟩ (.slice A' n' c')) Q := x.st (F := fun v => Calls P f a v Q) h
end Go.Proofs.YtbpamkpclofnbaaGreat
namespace Go.Proofs.YtbpamkpclofnbaaGreat.MP
set_option linter.unusedVariables false
set_option linter.unusedSimpArgs false
/-- A series of integers: the coefficients of a polynomial, from the power 0 on. -/
def Se := Nat → Int
namespace Se
theorem ext {p q : Se} (h : ∀ i, p i = q i) : p = q := funext h
instance : Add Se := ⟨fun p q i => p i + q i⟩
instance : Neg Se := ⟨fun p i => -p i⟩
instance : Sub Se := ⟨fun p q i => p i - q i⟩
/-- The constant. -/
def c (a : Int) : Se := fun i => if i = 0 then a else 0
/-- a times p. -/
def sm (a : Int) (p : Se) : Se := fun i => a * p i
/-- p without its first coefficient, and the power less by one. -/
def tl (p : Se) : Se := fun i => p (i + 1)
/-- x times p. -/
def sh (p : Se) : Se := fun i => match i with | 0 => 0 | i + 1 => p i
def mulc : Se → Se → Nat → Int
  | p, q, 0 => p 0 * q 0
  | p, q, k + 1 => p 0 * q (k + 1) + mulc (tl p) q k
instance : Mul Se := ⟨mulc⟩
variable (p q r s : Se) (a b : Int)
theorem add_at (i : Nat) : (p + q) i = p i + q i := rfl
theorem sub_at (i : Nat) : (p - q) i = p i - q i := rfl
theorem neg_at (i : Nat) : (-p) i = -p i := rfl
theorem sm_at (i : Nat) : (sm a p) i = a * p i := rfl
theorem tl_at (i : Nat) : (tl p) i = p (i + 1) := rfl
theorem sh_0 : (sh p) 0 = 0 := rfl
theorem sh_at (i : Nat) : (sh p) (i + 1) = p i := rfl
theorem c_0 : (c a) 0 = a := rfl
theorem c_at (i : Nat) : (c a) (i + 1) = 0 := rfl
theorem mul_0 : (p * q) 0 = p 0 * q 0 := rfl
theorem mul_at (k : Nat) : (p * q) (k + 1) = p 0 * q (k + 1) + (tl p * q) k := rfl
theorem add_comm : p + q = q + p := ext fun i => Int.add_comm _ _
theorem add_assoc : p + q + r = p + (q + r) := ext fun i => Int.add_assoc _ _ _
theorem sub_eq : p - q = p + -q := ext fun i => Int.sub_eq_add_neg
instance : Std.Commutative (α := Se) (· + ·) := ⟨add_comm⟩
instance : Std.Associative (α := Se) (· + ·) := ⟨add_assoc⟩
theorem add_zero : p + c 0 = p := ext fun i => by cases i <;> simp [add_at, c_0, c_at]
theorem zero_add : c 0 + p = p := by rw [add_comm, add_zero]
theorem add_neg : p + -p = c 0 := ext fun i => by cases i <;> simp [add_at, neg_at, c_0, c_at, Int.add_right_neg]
theorem sm_add : sm a (p + q) = sm a p + sm a q := ext fun i => by simp only [sm_at, add_at]; grind
theorem sm_sm : sm a (sm b p) = sm (a * b) p := ext fun i => by simp only [sm_at]; grind
theorem sm_one : sm 1 p = p := ext fun i => by simp [sm_at]
theorem sm_zero : sm 0 p = c 0 := ext fun i => by cases i <;> simp [sm_at, c_0, c_at]
theorem sm_neg : sm (-1) p = -p := ext fun i => by simp only [sm_at, neg_at]; grind
theorem tl_add : tl (p + q) = tl p + tl q := rfl
theorem tl_sm : tl (sm a p) = sm a (tl p) := rfl
theorem tl_c : tl (c a) = c 0 := ext fun i => by cases i <;> rfl
theorem tl_sh : tl (sh p) = p := rfl
theorem split : p = c (p 0) + sh (tl p) := ext fun i => by cases i <;> simp [add_at, c_0, c_at, sh_0, sh_at, tl_at]
theorem mul_at' : ∀ (k : Nat) (p q : Se), (p * q) (k + 1) = q 0 * p (k + 1) + (p * tl q) k
  | 0, p, q => by rw [mul_at, mul_0, mul_0]; simp only [tl_at]; grind
  | k + 1, p, q => by rw [mul_at, mul_at' k, mul_at]; simp only [tl_at]; grind
theorem mul_comm : p * q = q * p := by
  refine ext fun k => ?_
  induction k generalizing p q with
  | zero => rw [mul_0, mul_0, Int.mul_comm]
  | succ k ih => rw [mul_at, mul_at', ih]
theorem add_mul : (p + q) * r = p * r + q * r := by
  refine ext fun k => ?_
  induction k generalizing p q with
  | zero => simp only [mul_0, add_at]; grind
  | succ k ih => simp only [mul_at, add_at, tl_add, ih]; grind
theorem mul_add : r * (p + q) = r * p + r * q := by rw [mul_comm, add_mul, mul_comm p, mul_comm q]
theorem sm_mul : sm a p * q = sm a (p * q) := by
  refine ext fun k => ?_
  induction k generalizing p with
  | zero => simp only [mul_0, sm_at]; grind
  | succ k ih => have := ih (tl p); simp only [mul_at, sm_at, tl_sm] at this ⊢; grind
theorem mul_sm : p * sm a q = sm a (p * q) := by rw [mul_comm, sm_mul, mul_comm]
theorem c_mul : c a * p = sm a p := by
  refine ext fun k => ?_
  induction k generalizing a with
  | zero => rfl
  | succ k ih => rw [mul_at, tl_c, ih]; simp only [sm_at, c_0]; grind
theorem mul_c : p * c a = sm a p := by rw [mul_comm, c_mul]
theorem one_mul : c 1 * p = p := by rw [c_mul, sm_one]
theorem mul_one : p * c 1 = p := by rw [mul_comm, one_mul]
theorem zero_mul : c 0 * p = c 0 := by rw [c_mul, sm_zero]
theorem mul_zero : p * c 0 = c 0 := by rw [mul_comm, zero_mul]
theorem sh_mul : sh p * q = sh (p * q) := by
  refine ext fun k => ?_
  cases k with
  | zero => simp only [mul_0, sh_0]; grind
  | succ k => rw [mul_at, sh_0, tl_sh, sh_at]; grind
theorem tl_mul : tl (p * q) = sm (p 0) (tl q) + tl p * q := ext fun k => rfl
theorem mul_assoc : p * q * r = p * (q * r) := by
  refine ext fun k => ?_
  induction k generalizing p with
  | zero => simp only [mul_0]; grind
  | succ k ih => rw [mul_at, tl_mul, add_mul, add_at, ih, sm_mul, sm_at, mul_0, mul_at, mul_at]; grind
instance : Std.Commutative (α := Se) (· * ·) := ⟨mul_comm⟩
instance : Std.Associative (α := Se) (· * ·) := ⟨mul_assoc⟩
theorem neg_mul : -p * q = -(p * q) := by rw [← sm_neg, sm_mul, sm_neg]
theorem mul_neg : p * -q = -(p * q) := by rw [mul_comm, neg_mul, mul_comm]
theorem mul_sub : p * (q - r) = p * q - p * r := by rw [sub_eq, sub_eq, mul_add, mul_neg]
theorem sub_mul : (q - r) * p = q * p - r * p := by rw [mul_comm, mul_sub, mul_comm p, mul_comm p]
theorem sub_self : p - p = c 0 := by rw [sub_eq, add_neg]
theorem c_add : c a + c b = c (a + b) := ext fun i => by cases i <;> simp [add_at, c_0, c_at]
theorem c_sm : sm a (c b) = c (a * b) := ext fun i => by cases i <;> simp [sm_at, c_0, c_at]
theorem c_inj {a b : Int} (h : c a = c b) : a = b := by have := congrArg (fun p => p 0) h; simpa [c] using this
theorem sh_zero : sh (c 0) = c 0 := ext fun i => by cases i with | zero => rfl | succ i => cases i <;> rfl
end Se
end Go.Proofs.YtbpamkpclofnbaaGreat.MP
namespace Go.Proofs.YtbpamkpclofnbaaGreat.MP
set_option linter.unusedVariables false
set_option linter.unusedSimpArgs false
namespace Se
/-- Nothing from the power n on. -/
def Bd (p : Se) (n : Nat) : Prop := ∀ i, n ≤ i → p i = 0
/-- The degree is n. -/
def Dg (p : Se) (n : Nat) : Prop := p n ≠ 0 ∧ Bd p (n + 1)
/-- A polynomial. -/
def Fn (p : Se) : Prop := ∃ n, Bd p n
variable {p q r s t : Se} {a b : Int} {m n k : Nat}
theorem Bd.le (h : Bd p m) (hmn : m ≤ n) : Bd p n := fun i hi => h i (Nat.le_trans hmn hi)
theorem Bd.tl (h : Bd p (n + 1)) : Bd (Se.tl p) n := fun i hi => h (i + 1) (by omega)
theorem Bd.zero (h : Bd p 0) : p = c 0 := ext fun i => by rw [h i (by omega)]; cases i <;> rfl
theorem Bd.c (a : Int) : Bd (Se.c a) 1 := fun i hi => by cases i with | zero => omega | succ i => rfl
theorem Bd.c0 (n : Nat) : Bd (Se.c 0) n := fun i hi => by cases i <;> rfl
theorem Bd.add (h : Bd p n) (h2 : Bd q n) : Bd (p + q) n := fun i hi => by rw [add_at, h i hi, h2 i hi]; rfl
theorem Bd.neg (h : Bd p n) : Bd (-p) n := fun i hi => by rw [neg_at, h i hi]; rfl
theorem Bd.sub (h : Bd p n) (h2 : Bd q n) : Bd (p - q) n := fun i hi => by rw [sub_at, h i hi, h2 i hi]; rfl
theorem Bd.sm (h : Bd p n) : Bd (Se.sm a p) n := fun i hi => by rw [sm_at, h i hi, Int.mul_zero]
theorem Bd.sh (h : Bd p n) : Bd (Se.sh p) (n + 1) := fun i hi => by
  cases i with
  | zero => rfl
  | succ i => exact h i (by omega)
theorem mul_bd (h : Bd p (m + 1)) (h2 : Bd q (n + 1)) : Bd (p * q) (m + n + 1) ∧ (p * q) (m + n) = p m * q n := by
  induction m generalizing p with
  | zero =>
    have e : p = Se.c (p 0) := by rw [split p, h.tl.zero, sh_zero, add_zero]; rfl
    rw [e, c_mul]
    exact ⟨Bd.le h2.sm (by omega), by rw [Nat.zero_add, sm_at]; rfl⟩
  | succ m ih =>
    have ⟨h3, h4⟩ := ih h.tl
    refine ⟨fun i hi => ?_, ?_⟩
    · cases i with
      | zero => omega
      | succ i => rw [mul_at, h2 _ (by omega), h3 _ (by omega), Int.mul_zero]; rfl
    · rw [show m + 1 + n = m + n + 1 by omega, mul_at, h2 _ (by omega), h4, Int.mul_zero, Int.zero_add]; rfl
theorem Fn.add (h : Fn p) (h2 : Fn q) : Fn (p + q) := by
  obtain ⟨m, h⟩ := h; obtain ⟨n, h2⟩ := h2
  exact ⟨m + n, (h.le (by omega)).add (h2.le (by omega))⟩
theorem Fn.neg (h : Fn p) : Fn (-p) := h.imp fun _ h => h.neg
theorem Fn.sub (h : Fn p) (h2 : Fn q) : Fn (p - q) := by rw [sub_eq]; exact h.add h2.neg
theorem Fn.sm (h : Fn p) : Fn (Se.sm a p) := h.imp fun _ h => h.sm
theorem Fn.sh (h : Fn p) : Fn (Se.sh p) := by obtain ⟨n, h⟩ := h; exact ⟨_, h.sh⟩
theorem Fn.tl (h : Fn p) : Fn (Se.tl p) := by obtain ⟨n, h⟩ := h; exact ⟨n, (h.le (Nat.le_succ n)).tl⟩
theorem Fn.c (a : Int) : Fn (Se.c a) := ⟨1, Bd.c a⟩
theorem Fn.mul (h : Fn p) (h2 : Fn q) : Fn (p * q) := by
  obtain ⟨m, h⟩ := h; obtain ⟨n, h2⟩ := h2
  exact ⟨_, (mul_bd (h.le (Nat.le_succ m)) (h2.le (Nat.le_succ n))).1⟩
theorem Dg.ne (h : Dg p n) : p ≠ Se.c 0 := fun e => h.1 (by rw [e]; cases n <;> rfl)
theorem Dg.fn (h : Dg p n) : Fn p := ⟨_, h.2⟩
theorem Dg.uniq (h : Dg p m) (h2 : Dg p n) : m = n := by
  rcases Nat.lt_trichotomy m n with k | k | k
  · exact absurd (h.2 n k) h2.1
  · exact k
  · exact absurd (h2.2 m k) h.1
theorem Bd.dg (h : Bd p n) (h0 : p ≠ Se.c 0) : ∃ m, Dg p m ∧ m < n := by
  induction n with
  | zero => exact absurd h.zero h0
  | succ n ih =>
    by_cases k : p n = 0
    · obtain ⟨m, h1, h2⟩ := ih fun i hi => by
        rcases Nat.eq_or_lt_of_le hi with e | e
        · exact e ▸ k
        · exact h i e
      exact ⟨m, h1, by omega⟩
    · exact ⟨n, ⟨k, h⟩, by omega⟩
theorem Fn.dg (h : Fn p) (h0 : p ≠ Se.c 0) : ∃ m, Dg p m := by
  obtain ⟨n, h⟩ := h
  obtain ⟨m, h, _⟩ := h.dg h0
  exact ⟨m, h⟩
theorem Dg.mul (h : Dg p m) (h2 : Dg q n) : Dg (p * q) (m + n) := by
  have ⟨h3, h4⟩ := mul_bd h.2 h2.2
  exact ⟨by rw [h4]; exact Int.mul_ne_zero h.1 h2.1, h3⟩
theorem Dg.sm (h : Dg p m) (ha : a ≠ 0) : Dg (Se.sm a p) m := ⟨by rw [sm_at]; exact Int.mul_ne_zero ha h.1, h.2.sm⟩
theorem mul_ne (hp : Fn p) (hq : Fn q) (h : p ≠ Se.c 0) (h2 : q ≠ Se.c 0) : p * q ≠ Se.c 0 := by
  obtain ⟨m, h⟩ := hp.dg h; obtain ⟨n, h2⟩ := hq.dg h2
  exact (h.mul h2).ne
theorem sub_zero_iff : p - q = Se.c 0 ↔ p = q := by
  constructor
  · intro h
    refine ext fun i => ?_
    have := congrArg (fun f => f i) h
    simp only [sub_at] at this
    have e : (Se.c 0) i = 0 := by cases i <;> rfl
    omega
  · rintro rfl; exact sub_self _
theorem mul_cancel (hp : Fn p) (h : p ≠ Se.c 0) (hs : Fn s) (ht : Fn t) (e : p * s = p * t) : s = t := by
  refine Classical.byContradiction fun k => ?_
  refine mul_ne hp (hs.sub ht) h (fun e2 => k (sub_zero_iff.1 e2)) ?_
  rw [mul_sub, e, sub_self]
/-- One quotient, one rest. -/
theorem div_uniq (hq : Dg q n) (ht : Fn t) (hs : Fn s) {r1 r2 : Se} (h1 : Bd r1 n) (h2 : Bd r2 n) (e : q * t + r1 = q * s + r2) : t = s ∧ r1 = r2 := by
  have e2 : q * (t - s) = r2 - r1 := by
    refine ext fun i => ?_
    have := congrArg (fun f => f i) e
    simp only [add_at] at this
    rw [mul_sub, sub_at, sub_at]
    omega
  have e3 : t = s := by
    refine Classical.byContradiction fun k => ?_
    obtain ⟨m, hm⟩ := (ht.sub hs).dg fun e => k (sub_zero_iff.1 e)
    have := hq.mul hm
    rw [e2] at this
    exact this.1 ((h2.sub h1) _ (by omega))
  subst e3
  refine ⟨rfl, ext fun i => ?_⟩
  have := congrArg (fun f => f i) e
  simp only [add_at] at this
  omega
theorem sm_cancel (ha : a ≠ 0) (e : Se.sm a p = Se.sm a q) : p = q := ext fun i => Int.eq_of_mul_eq_mul_left ha (congrArg (fun f => f i) e)
theorem sm_ne (ha : a ≠ 0) (h : p ≠ Se.c 0) : Se.sm a p ≠ Se.c 0 := fun e => h (sm_cancel ha (by rw [e, c_sm, Int.mul_zero]))
/-- a divides b. -/
def Dv (p q : Se) : Prop := ∃ t, Fn t ∧ q = p * t
theorem Dv.refl (p : Se) : Dv p p := ⟨Se.c 1, Fn.c 1, (mul_one p).symm⟩
theorem Dv.trans (h : Dv p q) (h2 : Dv q r) : Dv p r := by
  obtain ⟨s, hs, rfl⟩ := h; obtain ⟨t, ht, rfl⟩ := h2
  exact ⟨s * t, hs.mul ht, by rw [mul_assoc]⟩
theorem Dv.add (h : Dv p q) (h2 : Dv p r) : Dv p (q + r) := by
  obtain ⟨s, hs, rfl⟩ := h; obtain ⟨t, ht, rfl⟩ := h2
  exact ⟨s + t, hs.add ht, by rw [mul_add]⟩
theorem Dv.neg (h : Dv p q) : Dv p (-q) := by
  obtain ⟨s, hs, rfl⟩ := h
  exact ⟨-s, hs.neg, by rw [mul_neg]⟩
theorem Dv.sub (h : Dv p q) (h2 : Dv p r) : Dv p (q - r) := by rw [sub_eq]; exact h.add h2.neg
theorem Dv.mul (h : Dv p q) (ht : Fn t) : Dv p (q * t) := by
  obtain ⟨s, hs, rfl⟩ := h
  exact ⟨s * t, hs.mul ht, mul_assoc _ _ _⟩
theorem Dv.sm (h : Dv p q) : Dv p (Se.sm a q) := by rw [← mul_c]; exact h.mul (Fn.c a)
theorem Dv.right (ht : Fn t) : Dv p (p * t) := ⟨t, ht, rfl⟩
theorem Dv.left (ht : Fn t) : Dv p (t * p) := ⟨t, ht, mul_comm _ _⟩
theorem Dv.zero : Dv p (Se.c 0) := ⟨Se.c 0, Fn.c 0, (mul_zero p).symm⟩
theorem Dv.mul2 (h : Dv p q) (r : Se) : Dv (p * r) (q * r) := by
  obtain ⟨s, hs, rfl⟩ := h
  exact ⟨s, hs, by ac_rfl⟩
theorem Dv.can (hr : Fn r) (h0 : r ≠ Se.c 0) (hp : Fn p) (hq : Fn q) (h : Dv (r * p) (r * q)) : Dv p q := by
  obtain ⟨s, hs, e⟩ := h
  exact ⟨s, hs, mul_cancel hr h0 hq (hp.mul hs) (by rw [e, mul_assoc])⟩
theorem Dv.le (h : Dv p q) (hp : Dg p m) (hq : Dg q n) : m ≤ n := by
  obtain ⟨s, hs, rfl⟩ := h
  have h0 : s ≠ Se.c 0 := fun e => hq.ne (by rw [e, mul_zero])
  obtain ⟨k, hk⟩ := hs.dg h0
  have := (hp.mul hk).uniq hq
  omega
end Se
end Go.Proofs.YtbpamkpclofnbaaGreat.MP
namespace Go.Proofs.YtbpamkpclofnbaaGreat.MP
set_option linter.unusedVariables false
set_option linter.unusedSimpArgs false
namespace Se
variable {p q r s t : Se} {a b : Int} {m n k : Nat}
/-- p at a number, of n coefficients. -/
def ev : Nat → Se → Int → Int
  | 0, _, _ => 0
  | n + 1, p, x => p 0 + x * ev n (tl p) x
/-- p at a polynomial, of n coefficients. -/
def cp : Nat → Se → Se → Se
  | 0, _, _ => c 0
  | n + 1, p, s => c (p 0) + s * cp n (tl p) s
theorem ev_more (h : Bd p n) (x : Int) : ∀ {m}, n ≤ m → ev m p x = ev n p x := by
  intro m hm
  induction m generalizing n p with
  | zero => rw [Nat.le_zero.1 hm]
  | succ m ih =>
    cases n with
    | zero =>
      have := ih (n := 0) (p := tl p) (fun i _ => h (i + 1) (by omega)) (by omega)
      show p 0 + x * ev m (tl p) x = 0
      rw [this, h 0 (by omega)]; simp [ev]
    | succ n => rw [ev, ev, ih h.tl (by omega)]
theorem cp_more (h : Bd p n) (x : Se) : ∀ {m}, n ≤ m → cp m p x = cp n p x := by
  intro m hm
  induction m generalizing n p with
  | zero => rw [Nat.le_zero.1 hm]
  | succ m ih =>
    cases n with
    | zero =>
      have := ih (n := 0) (p := tl p) (fun i _ => h (i + 1) (by omega)) (by omega)
      show c (p 0) + x * cp m (tl p) x = c 0
      rw [this, h 0 (by omega)]
      show c 0 + x * c 0 = c 0
      rw [mul_zero, add_zero]
    | succ n => rw [cp, cp, ih h.tl (by omega)]
theorem ev_add (n : Nat) (p q : Se) (x : Int) : ev n (p + q) x = ev n p x + ev n q x := by
  induction n generalizing p q with
  | zero => rfl
  | succ n ih => rw [ev, ev, ev, tl_add, ih, add_at]; grind
theorem ev_sh (n : Nat) (p : Se) (x : Int) : ev (n + 1) (sh p) x = x * ev n p x := by rw [ev, tl_sh, sh_0, Int.zero_add]
theorem ev_c (n : Nat) (a x : Int) : ev (n + 1) (c a) x = a := by
  rw [ev, tl_c, ev_more (Bd.c0 0) x (Nat.zero_le n)]; simp [ev, c_0]
theorem cp_add (n : Nat) (p q : Se) (x : Se) : cp n (p + q) x = cp n p x + cp n q x := by
  induction n generalizing p q with
  | zero => exact (add_zero _).symm
  | succ n ih => rw [cp, cp, cp, tl_add, ih, add_at, mul_add, ← c_add]; ac_rfl
theorem cp_sh (n : Nat) (p : Se) (x : Se) : cp (n + 1) (sh p) x = x * cp n p x := by rw [cp, tl_sh, sh_0, zero_add]
theorem cp_c (n : Nat) (a : Int) (x : Se) : cp (n + 1) (c a) x = c a := by
  rw [cp, tl_c, cp_more (Bd.c0 0) x (Nat.zero_le n)]
  show c a + x * c 0 = c a
  rw [mul_zero, add_zero]
theorem Fn.cp (n : Nat) (p : Se) (h : Fn s) : Fn (Se.cp n p s) := by
  induction n generalizing p with
  | zero => exact Fn.c 0
  | succ n ih => exact (Fn.c _).add (h.mul (ih _))
open Classical in
/-- The value of p at a number. -/
noncomputable def vl (p : Se) (x : Int) : Int := if h : Fn p then ev h.choose p x else 0
open Classical in
/-- p at a polynomial. -/
noncomputable def pu (p s : Se) : Se := if h : Fn p then cp h.choose p s else c 0
theorem vl_is (h : Bd p n) (x : Int) : vl p x = ev n p x := by
  have hf : Fn p := ⟨n, h⟩
  rw [vl, dif_pos hf]
  rcases Nat.le_total hf.choose n with k | k
  · exact (ev_more hf.choose_spec x k).symm
  · exact ev_more h x k
theorem pu_is (h : Bd p n) (s : Se) : pu p s = cp n p s := by
  have hf : Fn p := ⟨n, h⟩
  rw [pu, dif_pos hf]
  rcases Nat.le_total hf.choose n with k | k
  · exact (cp_more hf.choose_spec s k).symm
  · exact cp_more h s k
theorem vl_add (hp : Fn p) (hq : Fn q) (x : Int) : vl (p + q) x = vl p x + vl q x := by
  obtain ⟨m, hp⟩ := hp; obtain ⟨n, hq⟩ := hq
  have h1 : Bd p (m + n) := hp.le (by omega)
  have h2 : Bd q (m + n) := hq.le (by omega)
  rw [vl_is h1, vl_is h2, vl_is (h1.add h2), ev_add]
theorem vl_c (a x : Int) : vl (c a) x = a := by rw [vl_is (Bd.c a), ev_c]
theorem vl_sh (hp : Fn p) (x : Int) : vl (sh p) x = x * vl p x := by
  obtain ⟨m, hp⟩ := hp
  rw [vl_is hp, vl_is hp.sh, ev_sh]
theorem vl_split (hp : Fn p) (x : Int) : vl p x = p 0 + x * vl (tl p) x := by
  conv => lhs; rw [split p]
  rw [vl_add (Fn.c _) hp.tl.sh, vl_c, vl_sh hp.tl]
theorem pu_add (hp : Fn p) (hq : Fn q) (s : Se) : pu (p + q) s = pu p s + pu q s := by
  obtain ⟨m, hp⟩ := hp; obtain ⟨n, hq⟩ := hq
  have h1 : Bd p (m + n) := hp.le (by omega)
  have h2 : Bd q (m + n) := hq.le (by omega)
  rw [pu_is h1, pu_is h2, pu_is (h1.add h2), cp_add]
theorem pu_c (a : Int) (s : Se) : pu (c a) s = c a := by rw [pu_is (Bd.c a), cp_c]
theorem pu_sh (hp : Fn p) (s : Se) : pu (sh p) s = s * pu p s := by
  obtain ⟨m, hp⟩ := hp
  rw [pu_is hp, pu_is hp.sh, cp_sh]
theorem pu_split (hp : Fn p) (s : Se) : pu p s = c (p 0) + s * pu (tl p) s := by
  conv => lhs; rw [split p]
  rw [pu_add (Fn.c _) hp.tl.sh, pu_c, pu_sh hp.tl]
theorem Fn.pu (hp : Fn p) (hs : Fn s) : Fn (Se.pu p s) := by
  obtain ⟨m, hp⟩ := hp
  rw [pu_is hp]; exact Fn.cp m p hs
/-- An argument by the coefficients, from the last one down. -/
theorem Fn.ind {P : Se → Prop} (h0 : P (Se.c 0)) (h1 : ∀ p, Fn p → P (Se.tl p) → P p) (hp : Fn p) : P p := by
  obtain ⟨n, h⟩ := hp
  induction n generalizing p with
  | zero => exact h.zero ▸ h0
  | succ n ih => exact h1 p ⟨_, h⟩ (ih h.tl)
/-- x itself, and x + a, and c x. -/
def xa (a : Int) : Se := c a + sh (c 1)
def xc (a : Int) : Se := sh (c a)
theorem Bd.xa (a : Int) : Bd (Se.xa a) 2 := ((Bd.c a).le (by omega)).add (Bd.c 1).sh
theorem Bd.xc (a : Int) : Bd (Se.xc a) 2 := (Bd.c a).sh
theorem Fn.xa (a : Int) : Fn (Se.xa a) := ⟨_, Bd.xa a⟩
theorem Fn.xc (a : Int) : Fn (Se.xc a) := ⟨_, Bd.xc a⟩
theorem xc_mul (a : Int) (p : Se) : xc a * p = sh (sm a p) := by rw [xc, sh_mul, c_mul]
/-- The derivative. -/
def dr (p : Se) : Se := fun i => ((i + 1 : Nat) : Int) * p (i + 1)
theorem dr_at (i : Nat) : (dr p) i = ((i + 1 : Nat) : Int) * p (i + 1) := rfl
theorem mul_split (p q : Se) : p * q = sm (p 0) q + sh (tl p * q) := by
  conv => lhs; rw [split p]
  rw [add_mul, c_mul, sh_mul]
theorem Fn.dr (h : Fn p) : Fn (Se.dr p) := by
  obtain ⟨n, h⟩ := h
  exact ⟨n, fun i hi => by rw [dr_at, h _ (by omega), Int.mul_zero]⟩
theorem Bd.dr (h : Bd p n) : Bd (Se.dr p) (n - 1) := fun i hi => by rw [dr_at, h _ (by omega), Int.mul_zero]
end Se
end Go.Proofs.YtbpamkpclofnbaaGreat.MP
namespace Go.Proofs.YtbpamkpclofnbaaGreat.MP
set_option linter.unusedVariables false
set_option linter.unusedSimpArgs false
namespace Se
variable {p q r s : Se} {l m : List Int} {a x : Int} {n k i : Nat}
/-- A list's coefficients. -/
def co (l : List Int) : Se := fun i => l.getD i 0
theorem co_nil : co [] = c 0 := ext fun i => by cases i <;> rfl
theorem co_at (h : i < l.length) : (co l) i = l[i] := by simp [co, h]
theorem co_bd (l : List Int) : Bd (co l) l.length := fun i hi => by simp [co, hi]
theorem co_fn (l : List Int) : Fn (co l) := ⟨_, co_bd l⟩
theorem co_snoc (l : List Int) (a : Int) : co (l ++ [a]) = fun i => if i = l.length then a else (co l) i := by
  refine ext fun i => ?_
  show (l ++ [a]).getD i 0 = if i = l.length then a else l.getD i 0
  rcases Nat.lt_trichotomy i l.length with h | h | h
  · simp [List.getElem?_append, h, show i ≠ l.length by omega]
  · simp [h]
  · rw [if_neg (by omega)]
    simp [List.getElem?_append, show ¬ i < l.length by omega, show ¬ i - l.length < 1 by omega]
/-- In normal form: the last one isn't 0. -/
def Nm (l : List Int) : Prop := l.getLast? ≠ some 0
/-- Without the zeros at its end. -/
def nf (l : List Int) : List Int := (l.reverse.dropWhile (· == 0)).reverse
theorem nf_nil : nf [] = [] := rfl
theorem nf_zero (l : List Int) : nf (l ++ [0]) = nf l := by simp [nf]
theorem nf_ne (l : List Int) (h : a ≠ 0) : nf (l ++ [a]) = l ++ [a] := by simp [nf, h]
/-- An argument from the end. -/
theorem snoc_ind {P : List Int → Prop} (h0 : P []) (h1 : ∀ l a, P l → P (l ++ [a])) (l : List Int) : P l := by
  have : ∀ l : List Int, P l.reverse := fun l => by
    induction l with
    | nil => exact h0
    | cons a l ih => rw [List.reverse_cons]; exact h1 _ _ ih
  have := this l.reverse
  rwa [List.reverse_reverse] at this
theorem co_zero (l : List Int) : co (l ++ [0]) = co l := by
  rw [co_snoc]
  refine ext fun i => ?_
  show (if i = l.length then 0 else (co l) i) = (co l) i
  split
  · rename_i h; exact (co_bd l i (by omega)).symm
  · rfl
theorem co_nf (l : List Int) : co (nf l) = co l := by
  refine snoc_ind (P := fun l => co (nf l) = co l) rfl (fun l a ih => ?_) l
  by_cases h : a = 0
  · subst h; rw [nf_zero, ih, co_zero]
  · rw [nf_ne l h]
theorem nm_nf (l : List Int) : Nm (nf l) := by
  refine snoc_ind (P := fun l => Nm (nf l)) (by simp [Nm, nf]) (fun l a ih => ?_) l
  by_cases h : a = 0
  · subst h; rwa [nf_zero]
  · rw [nf_ne l h]; simp [Nm, h]
theorem nf_id (h : Nm l) : nf l = l := by
  revert h
  refine snoc_ind (P := fun l => Nm l → nf l = l) (fun _ => rfl) (fun l a _ h => nf_ne l ?_) l
  rintro rfl; simp [Nm] at h
theorem nm_dg (h : Nm l) (h0 : l ≠ []) : Dg (co l) (l.length - 1) := by
  revert h h0
  refine snoc_ind (P := fun l => Nm l → l ≠ [] → Dg (co l) (l.length - 1)) (fun _ h => absurd rfl h) (fun l a _ h _ => ?_) l
  have ha : a ≠ 0 := by rintro rfl; simp [Nm] at h
  refine ⟨?_, (co_bd _).le (by simp)⟩
  simp [co_snoc, ha]
theorem len_nm (h : Nm l) (h2 : Nm m) (e : co l = co m) : l.length = m.length := by
  by_cases h3 : l = []
  · by_cases h4 : m = []
    · rw [h3, h4]
    · exact absurd (by rw [← e, h3, co_nil]) (nm_dg h2 h4).ne
  · by_cases h4 : m = []
    · exact absurd (by rw [e, h4, co_nil]) (nm_dg h h3).ne
    · have := (e ▸ nm_dg h h3).uniq (nm_dg h2 h4)
      have := List.length_pos_iff.2 h3
      have := List.length_pos_iff.2 h4
      omega
/-- One list in normal form for each polynomial. -/
theorem nm_ext (h : Nm l) (h2 : Nm m) (e : co l = co m) : l = m := by
  have hl := len_nm h h2 e
  refine List.ext_getElem hl fun i h3 h4 => ?_
  rw [← co_at h3, ← co_at h4, e]
theorem nf_nf (l : List Int) : nf (nf l) = nf l := nf_id (nm_nf l)
theorem nf_len (l : List Int) : (nf l).length ≤ l.length := by
  refine snoc_ind (P := fun l => (nf l).length ≤ l.length) (Nat.le_refl _) (fun l a ih => ?_) l
  by_cases h : a = 0
  · subst h; rw [nf_zero]; simp; omega
  · rw [nf_ne l h]; exact Nat.le_refl _
theorem nf_nil_iff : nf l = [] ↔ co l = c 0 := by
  constructor
  · intro h; rw [← co_nf, h, co_nil]
  · intro h; exact nm_ext (nm_nf l) (by simp [Nm]) (by rw [co_nf, h, co_nil])
/-- The list of a polynomial of n coefficients. -/
def ls (n : Nat) (p : Se) : List Int := (List.range n).map fun i => p i
theorem co_ls (h : Bd p n) : co (ls n p) = p := ext fun i => by
  rcases Nat.lt_or_ge i n with k | k
  · simp [co, ls, k]
  · rw [h i k]; simp [co, ls, k]
/-- The values of the last so many coefficients, as Horner's rule has them. -/
def hr (l : List Int) (x : Int) : Int := l.foldr (fun a v => a + x * v) 0
end Se
end Go.Proofs.YtbpamkpclofnbaaGreat.MP
namespace Go.Proofs.YtbpamkpclofnbaaGreat.MP
set_option linter.unusedVariables false
set_option linter.unusedSimpArgs false
namespace Se
variable {p q r s : Se} {l m : List Int} {a b x : Int} {n k i : Nat}
/-- a at the power i. -/
def mo (i : Nat) (a : Int) : Se := fun k => if k = i then a else 0
theorem mo_at (i : Nat) (a : Int) (k : Nat) : (mo i a) k = if k = i then a else 0 := rfl
theorem mo_0 (a : Int) : mo 0 a = c a := rfl
theorem mo_succ (i : Nat) (a : Int) : mo (i + 1) a = sh (mo i a) := ext fun k => by
  cases k with
  | zero => simp [mo_at, sh_0]
  | succ k => simp [mo_at, sh_at]
theorem mo_sm (a b : Int) (k : Nat) : sm a (mo k b) = mo k (a * b) := ext fun i => by
  rw [sm_at, mo_at, mo_at]; split <;> simp
theorem mo_mul (i k : Nat) (a b : Int) : mo i a * mo k b = mo (i + k) (a * b) := by
  induction i with
  | zero => rw [mo_0, c_mul, mo_sm, Nat.zero_add]
  | succ i ih => rw [mo_succ, sh_mul, ih, ← mo_succ]; congr 1; omega
theorem mo_bd (k : Nat) (a : Int) : Bd (mo k a) (k + 1) := fun i hi => by rw [mo_at, if_neg (by omega)]
theorem co_snoc' (l : List Int) (a : Int) : co (l ++ [a]) = co l + mo l.length a := ext fun i => by
  rw [co_snoc, add_at, mo_at]
  by_cases h : i = l.length
  · subst h; rw [co_bd l _ (Nat.le_refl _)]; simp
  · simp [h]
theorem co_take_succ (hk : k < l.length) : co (l.take (k + 1)) = co (l.take k) + mo k l[k] := by
  rw [List.take_add_one, List.getElem?_eq_getElem hk]
  show co (l.take k ++ [l[k]]) = _
  rw [co_snoc', List.length_take, Nat.min_eq_left (by omega)]
theorem co_set (hk : k < l.length) (a : Int) : co (l.set k (l[k] + a)) = co l + mo k a := ext fun i => by
  rw [add_at, mo_at]
  by_cases h : i = k
  · subst h
    rw [co_at (by simpa using hk), co_at hk]; simp
  · rw [if_neg h]
    simp [co, List.getElem?_set, Ne.symm h]
theorem co_set' (hk : k < l.length) (a : Int) : co (l.set k a) = co l + mo k (a - l[k]) := by
  have := co_set hk (a - l[k])
  rwa [show l[k] + (a - l[k]) = a by omega] at this
theorem co_rep (n : Nat) : co (List.replicate n 0) = c 0 := ext fun i => by
  simp only [co, List.getD_eq_getElem?_getD, List.getElem?_replicate]
  cases i <;> (split <;> simp [c_0, c_at])
theorem co_map (f : Int → Int) (hf : f 0 = 0) (l : List Int) : co (l.map f) = fun i => f ((co l) i) := ext fun i => by
  simp only [co, List.getD_eq_getElem?_getD, List.getElem?_map]
  cases l[i]? <;> simp [hf]
theorem nm_len (h : Nm l) (hb : Bd (co l) n) : l.length ≤ n := by
  rcases Nat.lt_or_ge n l.length with hlt | hge
  · exfalso
    have h0 : l ≠ [] := fun e => by rw [e] at hlt; simp at hlt
    exact (nm_dg h h0).1 (hb _ (by omega))
  · exact hge
theorem pu_xc_at (a : Int) : ∀ (i : Nat) {p : Se}, Fn p → (pu p (xc a)) i = p i * a ^ i
  | 0, p, hp => by rw [pu_split hp, xc_mul, add_at, c_0, sh_0]; simp
  | i + 1, p, hp => by
    rw [pu_split hp, xc_mul, add_at, c_at, sh_at, sm_at, pu_xc_at a i hp.tl, tl_at, Int.zero_add, Int.pow_succ]
    grind
theorem co_mapIdx (f : Nat → Int → Int) (hf : ∀ k, f k 0 = 0) (l : List Int) : co (l.mapIdx f) = fun i => f i ((co l) i) := ext fun i => by
  simp only [co, List.getD_eq_getElem?_getD, List.getElem?_mapIdx]
  cases l[i]? <;> simp [hf]
theorem co_stretch (l : List Int) (a : Int) : co (nf ((nf l).mapIdx (fun k x => x * a ^ k))) = pu (co l) (xc a) := by
  rw [co_nf, co_mapIdx _ (by simp), co_nf]
  exact ext fun i => (pu_xc_at a i (co_fn l)).symm
theorem co_take_all (h : l.length ≤ k) : co (l.take k) = co l := by rw [List.take_of_length_le h]
theorem mul_round (hi : i < l.length) : co (l.take i) * q + mo i l[i] * q = co (l.take (i + 1)) * q := by
  rw [co_take_succ hi, add_mul]
end Se
end Go.Proofs.YtbpamkpclofnbaaGreat.MP
namespace Go.Proofs.YtbpamkpclofnbaaGreat
open Go.RowKit
set_option linter.unusedVariables false
set_option maxRecDepth 100000

/-- At place o of block d lies the integer X. -/
def El (w : World) (d o : Nat) (X : Int) (J : Nat) : Prop := ∃ b A n c, w.cell? ⟨d, o, none⟩ = some (.bool b) ∧ w.cell? ⟨d, o + 1, none⟩ = some (.slice A n c) ∧ Zr w b A n c X J
/-- The slice '.slice A n c' of integers reads as l, and its cells lie below block B. -/
def Pd (w : World) (B : Nat) (A : Option Addr) (n c : Nat) (l : List Int) (J : Nat) : Prop :=
  l.length = n ∧ n ≤ c ∧ n ≤ 100000 ∧ (0 < n → ∃ d o, A = some ⟨d, o, none⟩ ∧ d < B ∧ ∀ k (hk : k < l.length), El w d (o + k * 2) l[k] J)
/-- No limb is among these cells. -/
def Kd (l : List Value) : Prop := ∀ u ∈ l, ∀ x, u ≠ .int .u64 x
/-- Block g holds just the integers l, each in normal form. -/
def Pw (w : World) (g : Nat) (l : List Int) (J : Nat) : Prop :=
  ∃ cur : Array Value, w.heap[g]? = some (.cells cur 30 (0, 0)) ∧ cur.size = l.length * 2 ∧ l.length ≤ 100000 ∧ Kd cur.toList ∧
    ∀ k (hk : k < l.length), ∃ A n c, cur[k * 2]? = some (.bool (ngB l[k])) ∧ cur[k * 2 + 1]? = some (.slice A n c) ∧ Zn w A n c l[k] J
/-- A slice in memory of one's own: nothing, or the first integers of a block from B on. -/
def Po (w : World) (B : Nat) (A : Option Addr) (n c : Nat) (l : List Int) (J : Nat) : Prop :=
  (A = none ∧ n = 0 ∧ c = 0 ∧ l = []) ∨ ∃ g L, A = some ⟨g, 0, none⟩ ∧ B ≤ g ∧ c = L.length ∧ n ≤ c ∧ Pw w g L J ∧ l = L.take n
/-- A slice of integers is handed back. -/
def OutP (w : World) (l : List Int) (J : Nat) (e : Ending) (w' : World) : Prop := ∃ A n c, e = .returned (.slice A n c) ∧ Po w' w.heap.size A n c l J ∧ Below w.heap.size w w'
section
variable {w w' v W : World} {B B' d o g n c J K : Nat} {A : Option Addr} {X : Int} {l L : List Int}
theorem Zr.kto {b : Bool} (h : Zr w b A n c X J) (hK : J ≤ K) : Zr w b A n c X K := by
  obtain ⟨l, h1, h2, h3⟩ := h
  exact ⟨l, h1, h2, Nat.le_trans h3 hK⟩
theorem Zn.kto (h : Zn w A n c X J) (hK : J ≤ K) : Zn w A n c X K := ⟨h.1, Nat.le_trans h.2 hK⟩
theorem El.kto (h : El w d o X J) (hK : J ≤ K) : El w d o X K := by
  obtain ⟨b, A, n, c, h1, h2, h3⟩ := h
  exact ⟨b, A, n, c, h1, h2, h3.kto hK⟩
theorem El.keep (h : El w d o X J) (hd : d < w.heap.size) (hb : Below w.heap.size w w') : El w' d o X J := by
  obtain ⟨b, A, n, c, h1, h2, h3⟩ := h
  exact ⟨b, A, n, c, (hb.cell (p := ⟨d, o, none⟩) hd).trans h1, (hb.cell (p := ⟨d, o + 1, none⟩) hd).trans h2, h3.keep hb⟩
theorem Sto.cell (s : Sto W g v) {p : Addr} (hp : p.block ≠ g) : v.cell? p = W.cell? p := World.cell?_of_block (s.block _ hp)
theorem El.sto (h : El W d o X J) (hd : d ≠ g) (s : Sto W g v) : El v d o X J := by
  obtain ⟨b, A, n, c, h1, h2, h3⟩ := h
  exact ⟨b, A, n, c, (s.cell (p := ⟨d, o, none⟩) hd).trans h1, (s.cell (p := ⟨d, o + 1, none⟩) hd).trans h2, Ms.ms (g := g) s trivial h3⟩
theorem Pd.len (h : Pd w B A n c l J) : l.length = n := h.1
theorem Pd.cap (h : Pd w B A n c l J) : n ≤ c := h.2.1
theorem Pd.big (h : Pd w B A n c l J) : n ≤ 100000 := h.2.2.1
theorem Pd.at_ (h : Pd w B A n c l J) (hn : 0 < n) : ∃ d o, A = some ⟨d, o, none⟩ ∧ d < B ∧ ∀ k (hk : k < l.length), El w d (o + k * 2) l[k] J := h.2.2.2 hn
theorem Pd.nil (w : World) (B J : Nat) : Pd w B none 0 0 [] J := ⟨rfl, Nat.le_refl _, by omega, fun h => absurd h (by omega)⟩
theorem Pd.kto (h : Pd w B A n c l J) (hK : J ≤ K) : Pd w B A n c l K := ⟨h.1, h.2.1, h.2.2.1, fun hn => by
  obtain ⟨d, o, e, hd, hc⟩ := h.at_ hn
  exact ⟨d, o, e, hd, fun k hk => (hc k hk).kto hK⟩⟩
theorem Pd.more (h : Pd w B A n c l J) (hB : B ≤ B') : Pd w B' A n c l J := ⟨h.1, h.2.1, h.2.2.1, fun hn => by
  obtain ⟨d, o, e, hd, hc⟩ := h.at_ hn
  exact ⟨d, o, e, by omega, hc⟩⟩
theorem Pd.keep (h : Pd w B A n c l J) (hB : B ≤ w.heap.size) (hb : Below w.heap.size w w') : Pd w' B A n c l J := ⟨h.1, h.2.1, h.2.2.1, fun hn => by
  obtain ⟨d, o, e, hd, hc⟩ := h.at_ hn
  exact ⟨d, o, e, hd, fun k hk => (hc k hk).keep (by omega) hb⟩⟩
theorem Pd.go (h : Pd w w.heap.size A n c l J) (hb : Below w.heap.size w w') : Pd w' w'.heap.size A n c l J := (h.keep (Nat.le_refl _) hb).more hb.size
theorem Pd.sto (h : Pd W B A n c l J) (hB : B ≤ g) (s : Sto W g v) : Pd v B A n c l J := ⟨h.1, h.2.1, h.2.2.1, fun hn => by
  obtain ⟨d, o, e, hd, hc⟩ := h.at_ hn
  exact ⟨d, o, e, hd, fun k hk => (hc k hk).sto (by omega) s⟩⟩
theorem Pd.take (h : Pd w B A n c l J) {m : Nat} (hm : m ≤ n) : Pd w B A m c (l.take m) J := by
  have h1 := h.len
  refine ⟨by simp; omega, Nat.le_trans hm h.cap, Nat.le_trans hm h.big, fun hn => ?_⟩
  obtain ⟨d, o, e, hd, hc⟩ := h.at_ (by omega)
  refine ⟨d, o, e, hd, fun k hk => ?_⟩
  rw [List.length_take] at hk
  rw [List.getElem_take]
  exact hc k (by omega)
theorem Pd.drop (h : Pd w B A n c l J) {m : Nat} (hm : m < n) : ∃ d o, A = some ⟨d, o, none⟩ ∧ Pd w B (some ⟨d, o + m * 2, none⟩) (n - m) (c - m) (l.drop m) J := by
  have h1 := h.len
  have h2 := h.cap
  have h3 := h.big
  obtain ⟨d, o, e, hd, hc⟩ := h.at_ (by omega)
  refine ⟨d, o, e, by simp; omega, by omega, by omega, fun hn => ⟨d, o + m * 2, rfl, hd, fun k hk => ?_⟩⟩
  rw [List.length_drop] at hk
  have := hc (m + k) (by omega)
  rw [Nat.add_mul, ← Nat.add_assoc] at this
  rwa [List.getElem_drop]
/-- One integer of a slice: its cells. -/
theorem Pd.cells (h : Pd w B A n c l J) {k : Nat} (hk : k < n) : ∃ d o b A' n' c', A = some ⟨d, o, none⟩ ∧ d < B ∧ w.cell? ⟨d, o + k * 2, none⟩ = some (.bool b) ∧ w.cell? ⟨d, o + k * 2 + 1, none⟩ = some (.slice A' n' c') ∧ Zr w b A' n' c' (l[k]'(by have := h.len; omega)) J := by
  obtain ⟨d, o, e, hd, hc⟩ := h.at_ (by omega)
  obtain ⟨b, A', n', c', h1, h2, h3⟩ := hc k (by have := h.len; omega)
  exact ⟨d, o, b, A', n', c', e, hd, h1, h2, h3⟩
theorem Zn.zero (w : World) (J : Nat) : Zn w none 0 0 0 J := ⟨by rw [Int.natAbs_zero, dg_zero]; exact Rd.nil, Nat.zero_le _⟩
theorem kd_zero (m : Nat) : Kd (Builtin.zeroCells #[Value.bool false, Value.slice none 0 0] m).toList := by
  intro u hu x
  simp only [Builtin.zeroCells, Array.toList_map, List.mem_map] at hu
  obtain ⟨i, _, rfl⟩ := hu
  have h2 : i % 2 = 0 ∨ i % 2 = 1 := by omega
  rcases h2 with h | h <;> simp [h]
theorem Pw.lt (h : Pw w g L J) : g < w.heap.size := by
  obtain ⟨cur, h, _⟩ := h
  exact (Array.getElem?_eq_some_iff.1 h).1
theorem Pw.kto (h : Pw w g L J) (hK : J ≤ K) : Pw w g L K := by
  obtain ⟨cur, h, h1, h2, h3, h4⟩ := h
  refine ⟨cur, h, h1, h2, h3, fun k hk => ?_⟩
  obtain ⟨A, n, c, a1, a2, a3⟩ := h4 k hk
  exact ⟨A, n, c, a1, a2, a3.kto hK⟩
theorem Pw.keep (h : Pw w g L J) (hb : Below w.heap.size w w') : Pw w' g L J := by
  have hl := h.lt
  obtain ⟨cur, h, h1, h2, h3, h4⟩ := h
  refine ⟨cur, (hb.block g hl).trans h, h1, h2, h3, fun k hk => ?_⟩
  obtain ⟨A, n, c, a1, a2, a3⟩ := h4 k hk
  exact ⟨A, n, c, a1, a2, a3.keep hb⟩
theorem Pw.nl (h : Pw w g L J) : Nl w g := by
  obtain ⟨cur, h, h1, h2, h3, h4⟩ := h
  exact nl_of h fun i y e => h3 _ (by have := Array.mem_of_getElem? e; simpa using this) y rfl
theorem Pw.sto {h : Nat} (p : Pw W h L J) (hh : h ≠ g) (s : Sto W g v) : Pw v h L J := by
  obtain ⟨cur, h, h1, h2, h3, h4⟩ := p
  refine ⟨cur, (s.block _ hh).trans h, h1, h2, h3, fun k hk => ?_⟩
  obtain ⟨A, n, c, a1, a2, a3⟩ := h4 k hk
  exact ⟨A, n, c, a1, a2, Ms.ms (g := g) s trivial a3⟩
theorem Pw.fr (h : Pw w g L J) (i : Nat) : w.frozen? ⟨g, i, none⟩ = false := by
  obtain ⟨cur, h, _⟩ := h
  simp [World.frozen?, h]
theorem Pw.len (h : Pw w g L J) : L.length ≤ 100000 := by
  obtain ⟨cur, h, h1, h2, _⟩ := h
  exact h2
theorem Pw.cells (h : Pw w g L J) {k : Nat} (hk : k < L.length) : ∃ A n c, w.cell? ⟨g, k * 2, none⟩ = some (.bool (ngB L[k])) ∧ w.cell? ⟨g, k * 2 + 1, none⟩ = some (.slice A n c) ∧ Zn w A n c L[k] J := by
  obtain ⟨cur, h, h1, h2, h3, h4⟩ := h
  obtain ⟨A, n, c, a1, a2, a3⟩ := h4 k hk
  refine ⟨A, n, c, ?_, ?_, a3⟩
  · rw [cell_of_row w g _ _ _ (0, 0) h]; exact a1
  · rw [cell_of_row w g _ _ _ (0, 0) h]; exact a2
theorem kd_set {cs : Array Value} {i : Nat} {u : Value} (h : Kd cs.toList) (hu : ∀ x, u ≠ .int .u64 x) : Kd (cs.setIfInBounds i u).toList := fun y hy x => by
  rw [Array.toList_setIfInBounds] at hy
  rcases List.mem_or_eq_of_mem_set hy with h1 | h1
  · exact h _ h1 x
  · rw [h1]; exact hu x
/-- An integer is laid into a slice of one's own. -/
theorem Pw.set (h : Pw W g L J) {k : Nat} (hk : k < L.length) (z : Zn W A n c X J) :
    Sto W g ((W.setCell ⟨g, k * 2, none⟩ (.bool (ngB X))).setCell ⟨g, k * 2 + 1, none⟩ (.slice A n c)) ∧ Pw ((W.setCell ⟨g, k * 2, none⟩ (.bool (ngB X))).setCell ⟨g, k * 2 + 1, none⟩ (.slice A n c)) g (L.set k X) J := by
  have N := h.nl
  have s : Sto W g ((W.setCell ⟨g, k * 2, none⟩ (.bool (ngB X))).setCell ⟨g, k * 2 + 1, none⟩ (.slice A n c)) := ((Sto.refl W g).set N).set N
  refine ⟨s, ?_⟩
  obtain ⟨cur, h, h1, h2, h3, h4⟩ := h
  refine ⟨(cur.setIfInBounds (k * 2) (.bool (ngB X))).setIfInBounds (k * 2 + 1) (.slice A n c), ?_, by simp [h1], by simp; exact h2, kd_set (kd_set h3 (by simp)) (by simp), fun i hi => ?_⟩
  · simp [World.setCell, Array.getElem?_modify, h]
  · have hi2 : i < L.length := by simpa using hi
    obtain ⟨A', n', c', a1, a2, a3⟩ := h4 i hi2
    by_cases hik : i = k
    · subst hik
      refine ⟨A, n, c, ?_, ?_, ?_⟩
      · rw [List.getElem_set_self, Array.getElem?_setIfInBounds, if_neg (by omega), Array.getElem?_setIfInBounds, if_pos rfl, if_pos (by omega)]
      · rw [Array.getElem?_setIfInBounds, if_pos rfl, if_pos (by simp; omega)]
      · rw [List.getElem_set_self]; exact Ms.ms (g := g) s trivial z
    · refine ⟨A', n', c', ?_, ?_, ?_⟩
      · rw [List.getElem_set_ne (by omega), Array.getElem?_setIfInBounds, if_neg (by omega), Array.getElem?_setIfInBounds, if_neg (by omega)]; exact a1
      · rw [Array.getElem?_setIfInBounds, if_neg (by omega), Array.getElem?_setIfInBounds, if_neg (by omega)]; exact a2
      · rw [List.getElem_set_ne (by omega)]; exact Ms.ms (g := g) s trivial a3
/-- A new block of zeros. -/
theorem Pw.of_heap {m : Nat} {cs : Array Value} (h : w.heap[g]? = some (.cells cs 30 (0, 0))) (hm : m ≤ 100000) (hcs : cs = Builtin.zeroCells #[.bool false, .slice none 0 0] m) : Pw w g (List.replicate m 0) J := by
  subst hcs
  refine ⟨_, h, by simp [size_zeroCells], by simpa using hm, kd_zero m, fun k hk => ?_⟩
  have hk2 : k < m := by simpa using hk
  refine ⟨none, 0, 0, ?_, ?_, ?_⟩
  · rw [List.getElem_replicate]
    simp [Builtin.zeroCells, ngB]
    exact ⟨k * 2, by rw [Array.getElem?_eq_getElem (by simp only [Array.size_range]; omega), Array.getElem_range], by rw [Nat.mul_mod_left]; rfl⟩
  · simp [Builtin.zeroCells]
    exact ⟨k * 2 + 1, by rw [Array.getElem?_eq_getElem (by simp only [Array.size_range]; omega), Array.getElem_range], by rw [show (k * 2 + 1) % 2 = 1 by omega]; rfl⟩
  · rw [List.getElem_replicate]; exact ⟨by rw [Int.natAbs_zero, dg_zero]; exact Rd.nil, Nat.zero_le _⟩
theorem Pw.rd (h : Pw w g L J) {B : Nat} (hB : g < B) {o m c : Nat} (hm : o + m ≤ L.length) (hc : m ≤ c) : Pd w B (some ⟨g, o * 2, none⟩) m c ((L.drop o).take m) J := by
  have h0 := h.len
  refine ⟨by simp; omega, hc, by omega, fun hn => ⟨g, o * 2, rfl, hB, fun k hk => ?_⟩⟩
  rw [List.length_take, List.length_drop] at hk
  obtain ⟨A, n, c, a1, a2, a3⟩ := h.cells (k := o + k) (by omega)
  rw [List.getElem_take, List.getElem_drop]
  rw [Nat.add_mul] at a1 a2
  exact ⟨_, A, n, c, a1, a2, a3.zr⟩
theorem Po.pd (h : Po w B A n c l J) : Pd w w.heap.size A n c l J := by
  rcases h with ⟨rfl, rfl, rfl, rfl⟩ | ⟨g, L, rfl, hg, rfl, hn, hp, rfl⟩
  · exact Pd.nil _ _ _
  · have := hp.rd hp.lt (o := 0) (m := n) (c := L.length) (by omega) hn
    simpa using this
theorem Po.keep (h : Po w B A n c l J) (hb : Below w.heap.size w w') : Po w' B A n c l J := by
  rcases h with h | ⟨g, L, e, hg, hc, hn, hp, hl⟩
  · exact .inl h
  · exact .inr ⟨g, L, e, hg, hc, hn, hp.keep hb, hl⟩
theorem Po.more (h : Po w B A n c l J) (hB : B' ≤ B) : Po w B' A n c l J := by
  rcases h with h | ⟨g, L, e, hg, hc, hn, hp, hl⟩
  · exact .inl h
  · exact .inr ⟨g, L, e, by omega, hc, hn, hp, hl⟩
theorem Po.kto (h : Po w B A n c l J) (hK : J ≤ K) : Po w B A n c l K := by
  rcases h with h | ⟨g, L, e, hg, hc, hn, hp, hl⟩
  · exact .inl h
  · exact .inr ⟨g, L, e, hg, hc, hn, hp.kto hK, hl⟩
theorem Pw.po (h : Pw w g L J) (hB : B ≤ g) : Po w B (some ⟨g, 0, none⟩) L.length L.length L J := .inr ⟨g, L, rfl, hB, rfl, Nat.le_refl _, h, by simp⟩
end
/-- What was there stands as it stood but for the blocks of P, and so does every limb. -/
structure Fz (P : Nat → Prop) (W w' : World) : Prop where
  os : w'.os = W.os
  tape : w'.tape = W.tape
  output : w'.output = W.output
  size : W.heap.size ≤ w'.heap.size
  block : ∀ k, k < W.heap.size → ¬ P k → w'.heap[k]? = W.heap[k]?
  rd : ∀ A n c l, Rd W W.heap.size A n c l → Rd w' w'.heap.size A n c l
section
variable {P Q : Nat → Prop} {W v w' w0 : World} {g d o n c J B : Nat} {b : Bool} {A : Option Addr} {X : Int} {l L : List Int}
theorem Fz.of (hb : Below W.heap.size W w') : Fz P W w' := ⟨hb.os, hb.tape, hb.output, hb.size, fun k hk _ => hb.block k hk, fun _ _ _ _ h => (h.below hb).more hb.size⟩
theorem Fz.refl (W : World) : Fz P W W := Fz.of (Below.refl _ _)
theorem Fz.trans (h : Fz P W v) (h2 : Fz P v w') : Fz P W w' := ⟨h2.os.trans h.os, h2.tape.trans h.tape, h2.output.trans h.output, Nat.le_trans h.size h2.size, fun k hk hp => (h2.block k (Nat.lt_of_lt_of_le hk h.size) hp).trans (h.block k hk hp), fun _ _ _ _ r => h2.rd _ _ _ _ (h.rd _ _ _ _ r)⟩
theorem Fz.thenB (h : Fz P W v) (h2 : Below v.heap.size v w') : Fz P W w' := h.trans (Fz.of h2)
theorem Fz.mono (h : Fz P W w') (hp : ∀ b, b < W.heap.size → P b → Q b) : Fz Q W w' := ⟨h.os, h.tape, h.output, h.size, fun k hk hq => h.block k hk (fun q => hq (hp k hk q)), h.rd⟩
theorem Fz.below (h : Fz P W w') (hp : ∀ b, b < W.heap.size → ¬ P b) : Below W.heap.size W w' := ⟨h.os, h.tape, h.output, h.size, fun k hk => h.block k hk (hp k hk)⟩
/-- What comes behind turns new blocks too. -/
theorem Fz.more (h : Fz P W v) (h2 : Fz Q v w') (hp : ∀ b, b < W.heap.size → Q b → P b) : Fz P W w' := ⟨h2.os.trans h.os, h2.tape.trans h.tape, h2.output.trans h.output, Nat.le_trans h.size h2.size, fun k hk hn => (h2.block k (Nat.lt_of_lt_of_le hk h.size) (fun q => hn (hp k hk q))).trans (h.block k hk hn), fun _ _ _ _ r => h2.rd _ _ _ _ (h.rd _ _ _ _ r)⟩
theorem Sto.fz (s : Sto W g v) : Fz (fun b => b = g) W v := ⟨s.os, s.tape, s.output, Nat.le_of_eq s.size.symm, fun k _ hk => s.block k hk, fun _ _ _ _ r => r.sto s⟩
theorem Fz.sto (h : Fz P W v) (s : Sto v g w') (hg : W.heap.size ≤ g ∨ P g) : Fz P W w' := h.more s.fz fun b hb e => by
  subst e
  rcases hg with hg | hg
  · omega
  · exact hg
instance : Mv (Fz P w0 W) W v (Fz P w0 v) := ⟨fun x y => x.thenB y⟩
instance : Ms (Fz P w0 W) W v g (w0.heap.size ≤ g ∨ P g) (Fz P w0 v) := ⟨fun s hg x => x.sto s hg⟩
theorem Zr.via (h : Zr W b A n c X J) (f : Fz P W w') : Zr w' b A n c X J := by
  obtain ⟨l, h1, h2, h3⟩ := h
  exact ⟨l, f.rd _ _ _ _ h1, h2, h3⟩
theorem Zn.via (h : Zn W A n c X J) (f : Fz P W w') : Zn w' A n c X J := ⟨f.rd _ _ _ _ h.1, h.2⟩
theorem Bx.via (h : Bx W g b A n c) (f : Fz P W w') (hp : ¬ P g) : Bx w' g b A n c := (f.block g h.lt hp).trans h
theorem El.via (h : El W d o X J) (hd : d < W.heap.size) (f : Fz P W w') (hp : ¬ P d) : El w' d o X J := by
  obtain ⟨b, A, n, c, h1, h2, h3⟩ := h
  exact ⟨b, A, n, c, (World.cell?_of_block (f.block d hd hp)).trans h1, (World.cell?_of_block (f.block d hd hp)).trans h2, h3.via f⟩
theorem Pd.via (h : Pd W B A n c l J) (hB : B ≤ W.heap.size) (f : Fz P W w') (hp : ∀ b, P b → B ≤ b) : Pd w' B A n c l J := ⟨h.1, h.2.1, h.2.2.1, fun hn => by
  obtain ⟨d, o, e, hd, hc⟩ := h.at_ hn
  exact ⟨d, o, e, hd, fun k hk => (hc k hk).via (by omega) f (fun hq => by have := hp _ hq; omega)⟩⟩
theorem Pw.via (h : Pw W g L J) (f : Fz P W w') (hp : ¬ P g) : Pw w' g L J := by
  have hl := h.lt
  obtain ⟨cur, h, h1, h2, h3, h4⟩ := h
  refine ⟨cur, (f.block g hl hp).trans h, h1, h2, h3, fun k hk => ?_⟩
  obtain ⟨A, n, c, a1, a2, a3⟩ := h4 k hk
  exact ⟨A, n, c, a1, a2, a3.via f⟩
/-- At place o of block d lie the cells of an integer. -/
def Ec (w : World) (d o : Nat) (b : Bool) (A : Option Addr) (n c : Nat) : Prop := d < w.heap.size ∧ w.cell? ⟨d, o, none⟩ = some (.bool b) ∧ w.cell? ⟨d, o + 1, none⟩ = some (.slice A n c)
/-- A slice of integers below a block that is there. -/
def Pe (w : World) (B : Nat) (A : Option Addr) (n c : Nat) (l : List Int) (J : Nat) : Prop := B ≤ w.heap.size ∧ Pd w B A n c l J
theorem Ec.al (h : Ec W d o b A n c) : W.cell? ⟨d, o, none⟩ = some (.bool b) ∧ W.cell? ⟨d, o + 1, none⟩ = some (.slice A n c) := h.2
theorem Ec.c0 (h : Ec W d o b A n c) : W.cell? ⟨d, o, none⟩ = some (.bool b) := h.2.1
theorem Ec.c1 (h : Ec W d o b A n c) : W.cell? ⟨d, o + 1, none⟩ = some (.slice A n c) := h.2.2
theorem Ec.lt (h : Ec W d o b A n c) : d < W.heap.size := h.1
theorem Ec.keep (h : Ec W d o b A n c) (hb : Below W.heap.size W v) : Ec v d o b A n c := ⟨Nat.lt_of_lt_of_le h.1 hb.size, (hb.cell (p := ⟨d, o, none⟩) h.1).trans h.2.1, (hb.cell (p := ⟨d, o + 1, none⟩) h.1).trans h.2.2⟩
theorem Ec.sto (h : Ec W d o b A n c) (hd : d ≠ g) (s : Sto W g v) : Ec v d o b A n c := ⟨by rw [s.size]; exact h.1, (s.cell (p := ⟨d, o, none⟩) hd).trans h.2.1, (s.cell (p := ⟨d, o + 1, none⟩) hd).trans h.2.2⟩
theorem Ec.aside {b' : Bool} {A' : Option Addr} {n' c' : Nat} (h : Ec W d o b A n c) (hd : d ≠ g) : Ec ((W.setCell ⟨g, 0, none⟩ (.bool b')).setCell ⟨g, 1, none⟩ (.slice A' n' c')) d o b A n c :=
  ⟨by simpa [World.setCell] using h.1, (World.cell?_setCell_other _ _ _ _ (fun e => hd (by injection e with e1; exact e1.symm))).trans ((World.cell?_setCell_other _ _ _ _ (fun e => hd (by injection e with e1; exact e1.symm))).trans h.2.1),
    (World.cell?_setCell_other _ _ _ _ (fun e => hd (by injection e with e1; exact e1.symm))).trans ((World.cell?_setCell_other _ _ _ _ (fun e => hd (by injection e with e1; exact e1.symm))).trans h.2.2)⟩
theorem Ec.via (h : Ec W d o b A n c) (f : Fz P W w') (hp : ¬ P d) : Ec w' d o b A n c := ⟨Nat.lt_of_lt_of_le h.1 f.size, (World.cell?_of_block (f.block d h.1 hp)).trans h.2.1, (World.cell?_of_block (f.block d h.1 hp)).trans h.2.2⟩
theorem Pd.drw (h : Pd W B A n c l J) : Pd W.drew B A n c l J := h
theorem Ec.drw (h : Ec W d o b A n c) : Ec W.drew d o b A n c := h
theorem Pd.pe (h : Pd W W.heap.size A n c l J) : Pe W W.heap.size A n c l J := ⟨Nat.le_refl _, h⟩
theorem Pe.pd (h : Pe W B A n c l J) : Pd W W.heap.size A n c l J := h.2.more h.1
theorem Pe.drw (h : Pe W B A n c l J) : Pe W.drew B A n c l J := h
theorem Pe.len (h : Pe W B A n c l J) : l.length = n := h.2.len
theorem Pe.big (h : Pe W B A n c l J) : n ≤ 100000 := h.2.big
theorem Pe.cap (h : Pe W B A n c l J) : n ≤ c := h.2.cap
theorem Pe.keep (h : Pe W B A n c l J) (hb : Below W.heap.size W v) : Pe v B A n c l J := ⟨Nat.le_trans h.1 hb.size, h.2.keep h.1 hb⟩
theorem Pe.via (h : Pe W B A n c l J) (f : Fz P W w') (hp : ∀ b, P b → B ≤ b) : Pe w' B A n c l J := ⟨Nat.le_trans h.1 f.size, h.2.via h.1 f hp⟩
/-- One integer of a slice. -/
theorem Pe.ec (h : Pe W B A n c l J) {k : Nat} (hk : k < n) : ∃ d o b A' n' c', A = some ⟨d, o, none⟩ ∧ d < B ∧ Ec W d (o + k * 2) b A' n' c' ∧ Zr W b A' n' c' (l[k]'(by have := h.len; omega)) J := by
  obtain ⟨d, o, b, A', n', c', e, hd, h1, h2, z⟩ := h.2.cells hk
  exact ⟨d, o, b, A', n', c', e, hd, ⟨Nat.lt_of_lt_of_le hd h.1, h1, h2⟩, z⟩
theorem Pw.ec (h : Pw W g L J) {k : Nat} (hk : k < L.length) : ∃ A n c, Ec W g (k * 2) (ngB L[k]) A n c ∧ Zn W A n c L[k] J := by
  obtain ⟨A, n, c, h1, h2, z⟩ := h.cells hk
  exact ⟨A, n, c, ⟨h.lt, h1, h2⟩, z⟩
theorem Pw.drw (h : Pw W g L J) : Pw W.drew g L J := h
theorem Pw.st {F : World → Prop} {k : Nat} (h : Pw W g L J) (hk : k < L.length) (z : Zn W A n c X J) (K : ∀ v, Sto W g v → Pw v g (L.set k X) J → F v) :
    F ((W.setCell ⟨g, k * 2, none⟩ (.bool (ngB X))).setCell ⟨g, k * 2 + 1, none⟩ (.slice A n c)) := K _ (h.set hk z).1 (h.set hk z).2
theorem Pw.stc {C : Program} {f : Nat} {a : Array Value} {Q : Ending → World → Prop} {k : Nat} (h : Pw W g L J) (hk : k < L.length) (z : Zn W A n c X J) (K : ∀ v, Sto W g v → Pw v g (L.set k X) J → Calls C f a v Q) :
    Calls C f a ((W.setCell ⟨g, k * 2, none⟩ (.bool (ngB X))).setCell ⟨g, k * 2 + 1, none⟩ (.slice A n c)) Q := h.st (F := fun v => Calls C f a v Q) hk z K
instance : Mv (Ec W d o b A n c) W v (Ec v d o b A n c) := ⟨fun x y => x.keep y⟩
instance : Mv (Pe W B A n c l J) W v (Pe v B A n c l J) := ⟨fun x y => x.keep y⟩
instance : Mv (Pw W g L J) W v (Pw v g L J) := ⟨fun x y => x.keep y⟩
instance : Mv (Po W B A n c l J) W v (Po v B A n c l J) := ⟨fun x y => x.keep y⟩
instance : Ms (Ec W d o b A n c) W v g (d ≠ g) (Ec v d o b A n c) := ⟨fun s hg x => x.sto hg s⟩
instance : Ms (Pe W B A n c l J) W v g (B ≤ g) (Pe v B A n c l J) := ⟨fun s hg x => ⟨by rw [s.size]; exact x.1, x.2.sto hg s⟩⟩
instance {h : Nat} : Ms (Pw W h L J) W v g (h ≠ g) (Pw v h L J) := ⟨fun s hg x => x.sto hg s⟩
end
theorem Tryz.infoI : (Tryz.prog.info? 30).map (fun i => (i.zero, i.size, i.bytes)) = some (some (.agg #[.bool false, .slice none 0 0]), 2, 32) := by kernel_rfl
/-- A new slice of zeros. -/
theorem wp_makeP {w : World} {ops : Array Oper} {rest : List Oper} {o : Oper} {a : Act} {Q : Exit → Act → World → Prop} (hg : o.guard = none) (l c : Operand) (hop : o.op = Op.makeSlice 23 l c)
    (n J : Nat) (L C : Int) (hl : a.eval l = .int .i64 L) (hc : a.eval c = .int .i64 C) (hL : L = (n : Int)) (hC : C = (n : Int)) (hn : n ≤ 100000)
    (hK : ∀ w', Pw w' w.heap.size (List.replicate n 0) J → Below w.heap.size w w' → wpList Tryz.prog ops Q rest (a.put o.dst (.slice (some ⟨w.heap.size, 0, none⟩) n n)) w') :
    wpList Tryz.prog ops Q (o :: rest) a w := by
  obtain ⟨i0, hi, hz0, hz1, hz2⟩ := info_parts Tryz.infoI
  refine wpList_make_full w hg l c 23 hop 0 30 i0 (.agg #[.bool false, .slice none 0 0]) 2 Tryz.underlying23 hi hz0 hz1 .i64 .i64 L C n hl hc hL hC (by rw [hz2]; omega) (by unfold maxLen; omega) (Nat.zero_le _) ?_
  intro w' hown hgrow
  refine hK w' ?_ ⟨hgrow.os, hgrow.tape, hgrow.output, hgrow.size, fun k hk => hgrow.block k hk (by simp)⟩
  obtain ⟨_, h2⟩ := hown
  rcases h2 with ⟨h, _⟩ | ⟨g, cap, cur, hv, _, hh, hnc, _, hcs, hxs⟩
  · cases h
  · injection hv with hv1 hv2 hv3
    injection hv1 with hv1
    injection hv1 with hv1
    subst hv1 hv3
    have e : cur = Builtin.zeroCells #[.bool false, .slice none 0 0] n := by
      rw [List.take_of_length_le (by simp; omega)] at hxs
      exact Array.toList_inj.1 hxs
    exact Pw.of_heap hh hn e
end Go.Proofs.YtbpamkpclofnbaaGreat
namespace Go.Proofs.YtbpamkpclofnbaaGreat.MP.Se
theorem nf_le_take (l : List Int) (k : Nat) (hk : k < l.length) (h : l[k] = 0) : nf (l.take (k + 1)) = nf (l.take k) := by
  rw [List.take_add_one, List.getElem?_eq_getElem hk, h]; exact nf_zero _
theorem nf_take_ne (l : List Int) (k : Nat) (hk : k < l.length) (h : l[k] ≠ 0) : nf (l.take (k + 1)) = l.take (k + 1) := by
  rw [List.take_add_one, List.getElem?_eq_getElem hk]; exact nf_ne _ h
theorem nf_take (l : List Int) : nf l = l.take (nf l).length := by
  refine snoc_ind (P := fun l => nf l = l.take (nf l).length) (by simp [nf_nil]) (fun l a ih => ?_) l
  by_cases h : a = 0
  · subst h
    rw [nf_zero, List.take_append_of_le_length (nf_len l)]; exact ih
  · rw [nf_ne l h, List.take_length]
end Go.Proofs.YtbpamkpclofnbaaGreat.MP.Se
namespace Go.Proofs.YtbpamkpclofnbaaGreat
open Go.RowKit
open MP.Se (nf)
set_option linter.unusedVariables false
set_option maxRecDepth 100000

/-- What is left of a slice: nothing, or its beginning. -/
def Tr (A : Option Addr) (c m : Nat) (A' : Option Addr) (c' : Nat) : Prop := m = 0 ∧ A' = none ∧ c' = 0 ∨ 0 < m ∧ A' = A ∧ c' = c
theorem Pd.trim {w : World} {B : Nat} {A A' : Option Addr} {n c m c' J : Nat} {l : List Int} (h : Pd w B A n c l J) (hm : m = (nf l).length) (ht : Tr A c m A' c') : Pd w B A' m c' (nf l) J := by
  rcases ht with ⟨h0, rfl, rfl⟩ | ⟨h0, rfl, rfl⟩
  · rw [List.eq_nil_of_length_eq_zero (hm.symm.trans h0), h0]; exact Pd.nil _ _ _
  · rw [MP.Se.nf_take l, ← hm]
    exact h.take (by rw [hm, ← h.len]; exact MP.Se.nf_len l)
theorem Po.trim {w : World} {B : Nat} {A A' : Option Addr} {n c m c' J : Nat} {l : List Int} (h : Po w B A n c l J) (hm : m = (nf l).length) (ht : Tr A c m A' c') : Po w B A' m c' (nf l) J := by
  rcases ht with ⟨h0, rfl, rfl⟩ | ⟨h0, rfl, rfl⟩
  · exact .inl ⟨rfl, h0, rfl, List.eq_nil_of_length_eq_zero (hm.symm.trans h0)⟩
  · rcases h with ⟨rfl, rfl, rfl, rfl⟩ | ⟨g, L, rfl, hg, rfl, hn, hp, hl⟩
    · rw [hm] at h0; exact absurd h0 (by simp [MP.Se.nf_nil])
    · have hle := MP.Se.nf_len l
      have hll : l.length = n := by rw [hl]; simp; omega
      refine .inr ⟨g, L, rfl, hg, rfl, by omega, hp, ?_⟩
      rw [MP.Se.nf_take l, ← hm, hl, List.take_take]; congr 1; omega
theorem Ptrim_any {A : Option Addr} {n c J : Nat} {l : List Int} {w : World} (h : Pd w w.heap.size A n c l J) (hJ : J ≤ 1000000) :
    Calls Tryz.prog 112 #[.slice A n c] w fun e w' => ∃ A' m c', e = .returned (.slice A' m c') ∧ m = (nf l).length ∧ Tr A c m A' c' ∧ Below w.heap.size w w' := by
  have hl := h.len
  have hbig := h.big
  have hcap := h.cap
  have hr0 : Hid (nf l = nf (l.take n)) := Lib.hid (by rw [← hl, List.take_length])
  go_enter Tryz.func112, Tryz.ntmps112
  go_wp2_with fail
  go_loopw [3] (fun kv wr => ∃ k : Nat, k ≤ n ∧ kv = .int .i64 (k : Int) ∧ Hid (nf l = nf (l.take k)) ∧ Below w.heap.size w wr) (fun kv _ => (intOf kv).toNat)
  case atStart => exact ⟨n, Nat.le_refl _, rfl, hr0, Below.refl _ _⟩
  case round =>
    clear hr0
    obtain ⟨k, hk, rfl, hr, hb⟩ := hrel
    rcases Nat.eq_zero_or_pos k with h0 | h0
    · subst h0
      have hm : Hid ((nf l).length = 0) := Lib.hid (by rw [hr.out]; rfl)
      clear hr
      go_wp2
      go_ret
      exact ⟨none, 0, 0, rfl, hm.out.symm, .inl ⟨rfl, rfl, rfl⟩, hb⟩
    · obtain ⟨k, rfl⟩ : ∃ j, k = j + 1 := ⟨k - 1, by omega⟩
      have hkl : k < l.length := by omega
      obtain ⟨d, o, b, A', n', c', rfl, hd, h1, h2, z⟩ := (h.keep (Nat.le_refl _) hb).cells (k := k) (by omega)
      have hz : Hid (l[k] = 0 → nf l = nf (l.take k)) := Lib.hid fun e => hr.out.trans (MP.Se.nf_le_take l k hkl e)
      have hz2 : Hid (l[k] ≠ 0 → (nf l).length = k + 1) := Lib.hid fun e => by
        rw [hr.out, MP.Se.nf_take_ne l k hkl e]; simp; omega
      clear hr
      generalize l[k] = X at *
      go_wp2_with fail
      with_reducible refine (ZSign_any z hJ).mono ?_
      rintro e v2 ⟨rfl, hb1⟩
      replace hb := bthen hb hb1
      rcases Classical.em (X = 0) with hX | hX
      · have hz1 := Lib.hid (hz.out hX)
        subst hX
        clear hz hz2 z h1 h2 hb1
        rw [show sgnI 0 = 0 from rfl]
        go_wp2_with fail
        refine ⟨⟨k, by omega, rfl, hz1, hb⟩, by simp [intOf]⟩
      · have hm := Lib.hid (hz2.out hX)
        have hsg : (sgnI X == 0) = false := by simp [sgnI]; omega
        clear hz hz2 z h1 h2 hb1
        generalize sgnI X = S at *
        go_wp2
        go_ret
        exact ⟨_, k + 1, c, rfl, hm.out.symm, .inr ⟨by omega, rfl, rfl⟩, hb⟩
end Go.Proofs.YtbpamkpclofnbaaGreat
namespace Go.Proofs.YtbpamkpclofnbaaGreat
open Go.RowKit
open MP.Se (nf)
set_option linter.unusedVariables false
set_option maxRecDepth 100000

/-- A function value that turns the k-th integer X into f k X, and may turn blocks of P, all below B; I is what it keeps. -/
structure Ch (P : Nat → Prop) (B fid : Nat) (caps : Array Value) (I : World → Nat → Prop) (f : Nat → Int → Int) (l : List Int) (J K : Nat) : Prop where
  ent : ∀ (args : Array Value) (w : World), (callFunc fid args).run Tryz.prog w = .ok (.enter fid args) w
  lt : ∀ b, P b → b < B
  keep : ∀ (w w' : World) (k : Nat), I w k → Fz (fun b => B ≤ b) w w' → I w' k
  step : ∀ (w : World) (k : Nat) (hk : k < l.length) (b : Bool) (A : Option Addr) (n c : Nat), I w k → Zr w b A n c l[k] J →
    Calls Tryz.prog fid (#[.agg #[.bool b, .slice A n c]] ++ caps) w fun e w' => ∃ A' n' c', e = .returned (.agg #[.bool (ngB (f k l[k])), .slice A' n' c']) ∧ Zn w' A' n' c' (f k l[k]) K ∧ I w' (k + 1) ∧ Fz P w w'
/-- What the loop of each keeps. -/
def EaR (P : Nat → Prop) (I : World → Nat → Prop) (D : Nat) (A : Option Addr) (m c : Nat) (N : List Int) (J K : Nat) (f : Nat → Int → Int) (w : World) (g k : Nat) (wr : World) : Prop :=
  ∃ L : List Int, Pw wr g L K ∧ L.length = m ∧ L.take k = (N.mapIdx f).take k ∧ I wr k ∧ Fz P w wr ∧ Pd wr D A m c N J
theorem Peach_any {P : Nat → Prop} {B D fid : Nat} {caps : Array Value} {I : World → Nat → Prop} {f : Nat → Int → Int} {J K : Nat} {A : Option Addr} {n c : Nat} {l : List Int} {w : World}
    (C : Ch P B fid caps I f (nf l) J K) (h : Pd w D A n c l J) (hD : D ≤ w.heap.size) (hP : ∀ b, P b → D ≤ b) (hB : B ≤ w.heap.size) (hI : I w 0) (hJ : J ≤ 1000000) (hK : K ≤ 1000000) :
    Calls Tryz.prog 124 #[.slice A n c, .func (.func fid) #[] caps] w fun e w' => ∃ A' m c', e = .returned (.slice A' m c') ∧ Po w' w.heap.size A' m c' (nf ((nf l).mapIdx f)) K ∧ I w' (nf l).length ∧ Fz P w w' := by
  have hl := h.len
  have hbig := h.big
  have HE := C.ent
  obtain ⟨N, hN⟩ : ∃ N, nf l = N := ⟨_, rfl⟩
  rw [hN] at C ⊢
  obtain ⟨M, hM⟩ : ∃ M, N.mapIdx f = M := ⟨_, rfl⟩
  obtain ⟨T, hT⟩ : ∃ T, N.length = T := ⟨_, rfl⟩
  rw [hM, hT]
  have HN := Lib.hid hN; have HM0 := Lib.hid hM; have HT := Lib.hid hT; clear hN hM hT
  go_enter Tryz.func124, Tryz.ntmps124
  go_wp2_with fail
  with_reducible refine (Ptrim_any (h.more hD) hJ).mono ?_
  rintro e v1 ⟨A1, m, c1, rfl, hm, ht, hb⟩
  replace h := (h.keep hD hb).trim hm ht
  have hmb := h.big
  rw [HN.out] at h
  have hm2 := h.len
  have HM := Lib.hid hm2; clear hm2 hm ht hl hbig
  have hTm : Hid (T = m) := Lib.hid (by rw [← HT.out]; exact HM.out)
  have HC := Lib.hid C; have hlt := C.lt; have hkp := C.keep; clear C
  go_wp2_with (at_make; refine wp_makeP rfl _ _ rfl m K _ _ rfl rfl rfl rfl hmb ?_; intro v2 hp hb1; obtain ⟨g, hg⟩ : ∃ g, v1.heap.size = g := ⟨_, rfl⟩; rw [hg] at hp ⊢; have hgw : w.heap.size ≤ g := by rw [← hg]; exact hb.size)
  replace h := h.keep (Nat.le_trans hD hb.size) hb1
  replace hb := bthen hb hb1
  replace hI := hkp _ _ _ hI (Fz.of hb)
  have HK := Lib.hid hkp
  clear hb1 hg hkp
  have hr0 : EaR P I D A1 m c1 N J K f w g 0 v2 := ⟨_, hp, by simp, by simp, hI, Fz.of hb, h⟩
  clear hp hI hb h
  go_loopw [14] (fun kv wr => ∃ k : Nat, k ≤ m ∧ kv = .int .i64 (k : Int) ∧ EaR P I D A1 m c1 N J K f w g k wr) (fun kv _ => m - (intOf kv).toNat)
  case atStart => exact ⟨0, by omega, rfl, hr0⟩
  case round =>
    clear hr0
    obtain ⟨k, hk, rfl, L, hp, hLm, hLk, hI, hf, h⟩ := hrel
    have hDr := Nat.le_trans hD hf.size
    by_cases hkm : k < m
    · have hkN : k < N.length := by have := HM.out; omega
      obtain ⟨d, o, b, A', n', c', rfl, hd, h1, h2, z⟩ := h.cells hkm
      have hst := HC.out.step wr k hkN b A' n' c' hI z
      have hset : ∀ X, X = f k N[k] → (L.set k X).take (k + 1) = (N.mapIdx f).take (k + 1) := fun X hX => by
        rw [List.take_add_one, List.take_add_one, List.take_set_of_le (Nat.le_refl k), hLk, List.getElem?_set_self (by omega), List.getElem?_mapIdx, List.getElem?_eq_getElem hkN, hX]; rfl
      obtain ⟨X, hX⟩ : ∃ X, f k N[k] = X := ⟨_, rfl⟩
      rw [hX] at hst
      have HS := Lib.hid (hset X hX.symm)
      have HST := Lib.hid hst
      clear hset hX hst z hLk hI
      have HL := Lib.hid hLm; clear hLm
      go_wp2_with fail
      with_reducible refine HST.out.mono ?_
      rintro e v3 ⟨A8, n8, c8, rfl, z8, hI, hf1⟩
      replace h := h.via hDr hf1 hP
      replace hp := hp.via hf1 (fun hq => by have := hlt _ hq; omega)
      replace hf := hf.trans hf1
      clear hf1 h1 h2 HST
      obtain ⟨A9, n9, c9, q0, q1, _⟩ := hp.cells (k := k) (by have := HL.out; omega)
      have f0 := hp.fr (k * 2)
      have f1 := hp.fr (k * 2 + 1)
      go_wp2_with fail
      obtain ⟨hs, hp2⟩ := hp.set (k := k) (by have := HL.out; omega) z8
      refine ⟨⟨k + 1, by omega, by go_num, _, hp2, by simp; exact HL.out, HS.out, HK.out _ _ _ hI (hs.fz.mono fun b _ e => by omega), hf.sto hs (.inl hgw), h.sto (by omega) hs⟩, by simp [intOf]; omega⟩
    · obtain rfl : k = m := by omega
      have hLN : L = N.mapIdx f := by rw [List.take_of_length_le (by omega), List.take_of_length_le (by simp; have := HM.out; omega)] at hLk; exact hLk
      rw [HM0.out] at hLN
      subst hLN
      have hpo := hp.po (B := w.heap.size) hgw
      rw [hLm] at hpo
      clear hLm hLk h hp
      go_wp2_with fail
      with_reducible refine (Ptrim_any hpo.pd hK).mono ?_
      rintro e v3 ⟨A3, m3, c3, rfl, hm3, ht3, hb1⟩
      have hpo3 := (hpo.keep hb1).trim hm3 ht3
      have HM3 := Lib.hid hm3
      clear hm3
      go_wp2
      go_ret
      exact ⟨A3, m3, c3, rfl, hpo3, by rw [← HT.out, HM.out]; exact HK.out _ _ _ hI (Fz.of hb1), hf.thenB hb1⟩
end Go.Proofs.YtbpamkpclofnbaaGreat
namespace Go.Proofs.YtbpamkpclofnbaaGreat
open Go.RowKit
open MP.Se (nf)
set_option linter.unusedVariables false
set_option maxRecDepth 100000

theorem Ch.plain {fid J K : Nat} {f : Int → Int} {l : List Int} {caps : Array Value} {B : Nat} {I : World → Prop} (hent : ∀ (args : Array Value) (w : World), (callFunc fid args).run Tryz.prog w = .ok (.enter fid args) w)
    (hkeep : ∀ w w', I w → Fz (fun b => B ≤ b) w w' → I w')
    (h : ∀ (w : World) (X : Int), X ∈ l → ∀ (b : Bool) (A : Option Addr) (n c : Nat), I w → Zr w b A n c X J → Calls Tryz.prog fid (#[.agg #[.bool b, .slice A n c]] ++ caps) w (OutZ w (f X) K))
    (hI : ∀ w w', I w → Below w.heap.size w w' → I w') : Ch (fun _ => False) B fid caps (fun w _ => I w) (fun _ => f) l J K := by
  refine ⟨hent, fun _ h => h.elim, fun w w' _ h1 h2 => hkeep _ _ h1 h2, fun w k hk b A n c hi z => ?_⟩
  refine (h w _ (List.getElem_mem hk) b A n c hi z).mono ?_
  rintro e w' ⟨A', n', c', rfl, z', hb⟩
  exact ⟨A', n', c', rfl, z', hI _ _ hi hb, Fz.of hb⟩
theorem mapIdx_const (f : Int → Int) (l : List Int) : l.mapIdx (fun _ => f) = l.map f := by
  apply List.ext_getElem <;> simp
theorem Peach_plain {B fid J K : Nat} {caps : Array Value} {I : World → Prop} {f : Int → Int} {A : Option Addr} {n c : Nat} {l : List Int} {w : World}
    (C : Ch (fun _ => False) B fid caps (fun w _ => I w) (fun _ => f) (nf l) J K) (h : Pd w w.heap.size A n c l J) (hB : B ≤ w.heap.size) (hI : I w) (hJ : J ≤ 1000000) (hK : K ≤ 1000000) :
    Calls Tryz.prog 124 #[.slice A n c, .func (.func fid) #[] caps] w (OutP w (nf ((nf l).map f)) K) := by
  refine (Peach_any C h (Nat.le_refl _) (fun _ h => h.elim) hB hI hJ hK).mono ?_
  rintro e w' ⟨A', m, c', rfl, hp, _, hf⟩
  rw [mapIdx_const] at hp
  exact ⟨A', m, c', rfl, hp, hf.below fun _ _ h => h⟩
theorem ent_ZNorm : ∀ (args : Array Value) (w : World), (callFunc 86 args).run Tryz.prog w = .ok (.enter 86 args) w := enters_of Tryz.func86 (by kernel_rfl) rfl
theorem PNorm_any {A : Option Addr} {n c J : Nat} {l : List Int} {w : World} (h : Pd w w.heap.size A n c l J) (hJ : J ≤ 1000000) :
    Calls Tryz.prog 103 #[.slice A n c] w (OutP w (nf l) J) := by
  have C : Ch (fun _ => False) 0 86 #[] (fun _ _ => True) (fun _ X => X) (nf l) J J := Ch.plain ent_ZNorm (fun _ _ _ _ => trivial) (fun w X _ b A n c _ z => ZNorm_any z J (Nat.le_refl _)) (fun _ _ _ _ => trivial)
  go_enter Tryz.func103, Tryz.ntmps103
  go_wp2_with fail
  with_reducible refine (Peach_plain C h (Nat.zero_le _) trivial hJ hJ).mono ?_
  rintro e w' ⟨A', m, c', rfl, hp, hb⟩
  rw [List.map_id', MP.Se.nf_nf] at hp
  go_wp2
  go_ret
  exact ⟨A', m, c', rfl, hp, hb⟩
end Go.Proofs.YtbpamkpclofnbaaGreat
namespace Go.Proofs.YtbpamkpclofnbaaGreat
open Go.RowKit
set_option linter.unusedVariables false

theorem Ec.alloc {w : World} {d o n c : Nat} {b : Bool} {A : Option Addr} (h : Ec w d o b A n c) (x : Obj) : Ec (w.alloc x) d o b A n c := h.keep (below_alloc _ _)
theorem Si.neg {X : Int} {k : Nat} (h : Si X k) : Si (-X) k := by unfold Si; rw [Int.natAbs_neg]; exact h
theorem Si.sub {X Y : Int} {k : Nat} (h : Si X k) (h2 : Si Y k) : Si (X - Y) (k + 1) := by rw [Int.sub_eq_add_neg]; exact h.add h2.neg
theorem Si.zero (k : Nat) : Si 0 k := by unfold Si Sm; exact Nat.pow_pos Wd0
theorem Zn.si {w : World} {A : Option Addr} {n c k : Nat} {X : Int} (h : Zn w A n c X k) : Si X k := h.zr.si
theorem take_set (L : List Int) (m k : Nat) (X : Int) : (L.set k X).take m = (L.take m).set k X := by
  induction L generalizing m k with
  | nil => simp
  | cons a L ih => cases m <;> cases k <;> simp [ih]
/-- The first m integers of block g are R. -/
def Pt (w : World) (g c m : Nat) (R : List Int) (K : Nat) : Prop := ∃ L, Pw w g L K ∧ L.length = c ∧ m ≤ c ∧ R = L.take m
section
variable {w v W : World} {B g h c m n d J K : Nat} {A : Option Addr} {X : Int} {R L : List Int}
theorem Pt.len (p : Pt w g c m R K) : R.length = m := by
  obtain ⟨L, _, h1, h2, rfl⟩ := p
  simp; omega
theorem Pt.lt (p : Pt w g c m R K) : g < w.heap.size := by
  obtain ⟨L, h, _⟩ := p
  exact h.lt
theorem Pt.keep (p : Pt w g c m R K) (hb : Below w.heap.size w v) : Pt v g c m R K := by
  obtain ⟨L, h, h1⟩ := p
  exact ⟨L, h.keep hb, h1⟩
theorem Pt.drw (p : Pt w g c m R K) : Pt w.drew g c m R K := p
theorem Pt.fr (p : Pt w g c m R K) (i : Nat) : w.frozen? ⟨g, i, none⟩ = false := by
  obtain ⟨L, h, h1⟩ := p
  exact h.fr i
theorem Pt.ec (p : Pt w g c m R K) {k : Nat} (hk : k < R.length) : ∃ A n c, Ec w g (k * 2) (ngB R[k]) A n c ∧ Zn w A n c R[k] K := by
  obtain ⟨L, h, h1, h2, rfl⟩ := p
  rw [List.length_take] at hk
  rw [List.getElem_take]
  exact h.ec (by omega)
theorem Pt.st {F : World → Prop} {k : Nat} (p : Pt W g c m R K) (hk : k < R.length) (z : Zn W A n d X K) (hF : ∀ v, Sto W g v → Pt v g c m (R.set k X) K → F v) :
    F ((W.setCell ⟨g, k * 2, none⟩ (.bool (ngB X))).setCell ⟨g, k * 2 + 1, none⟩ (.slice A n d)) := by
  obtain ⟨L, h, h1, h2, rfl⟩ := p
  rw [List.length_take] at hk
  exact h.st (by omega) z fun v s p => hF v s ⟨_, p, by simpa using h1, h2, (take_set _ _ _ _).symm⟩
theorem Pt.stc {C : Program} {f : Nat} {a : Array Value} {Q : Ending → World → Prop} {k : Nat} (p : Pt W g c m R K) (hk : k < R.length) (z : Zn W A n d X K) (hF : ∀ v, Sto W g v → Pt v g c m (R.set k X) K → Calls C f a v Q) :
    Calls C f a ((W.setCell ⟨g, k * 2, none⟩ (.bool (ngB X))).setCell ⟨g, k * 2 + 1, none⟩ (.slice A n d)) Q := p.st (F := fun v => Calls C f a v Q) hk z hF
theorem Pt.po (p : Pt w g c m R K) (hB : B ≤ g) : Po w B (some ⟨g, 0, none⟩) m c R K := by
  obtain ⟨L, h, h1, h2, e⟩ := p
  exact .inr ⟨g, L, rfl, hB, h1.symm, h2, h, e⟩
theorem Pw.pt (p : Pw w g L K) : Pt w g L.length L.length L K := ⟨L, p, rfl, Nat.le_refl _, by simp⟩
theorem Pt.kto (p : Pt w g c m R J) (hK : J ≤ K) : Pt w g c m R K := by
  obtain ⟨L, h, h1⟩ := p
  exact ⟨L, h.kto hK, h1⟩
theorem Pt.take (p : Pt w g c m R K) {j : Nat} (hj : j ≤ m) : Pt w g c j (R.take j) K := by
  obtain ⟨L, h, h1, h2, rfl⟩ := p
  exact ⟨L, h, h1, by omega, by rw [List.take_take, Nat.min_eq_left hj]⟩
instance : Mv (Pt W g c m R K) W v (Pt v g c m R K) := ⟨fun x y => x.keep y⟩
instance : Ms (Pt W h c m R K) W v g (h ≠ g) (Pt v h c m R K) := ⟨fun s hg p => by
  obtain ⟨L, h1, h2⟩ := p
  exact ⟨L, Ms.ms s hg h1, h2⟩⟩
end
theorem Bx.at_size {w : World} {N : Nat} {b : Bool} {A : Option Addr} {n c : Nat} (h : w.heap.size = N) : Bx (w.alloc (.cells #[.bool b, .slice A n c] 30)) N b A n c := by subst h; exact Bx.new w b A n c
theorem put_size (w : World) (g : Nat) (b : Bool) (A : Option Addr) (n c : Nat) : ((w.setCell ⟨g, 0, none⟩ (.bool b)).setCell ⟨g, 1, none⟩ (.slice A n c)).heap.size = w.heap.size := by simp [World.setCell]
theorem alloc_size (w : World) (o : Obj) : (w.alloc o).heap.size = w.heap.size + 1 := by simp
/-- Two new boxes of integers in normal form, in a world that is otherwise as it was. -/
def BnNew2 (v : World) (X Y : Int) (k k2 : Nat) (s t : Value) (wx : World) : Prop :=
  ∃ g h A n c A2 n2 c2, s = .pointer (some ⟨g, 0, none⟩) ∧ t = .pointer (some ⟨h, 0, none⟩) ∧ g ≠ h ∧ Bx wx g (ngB X) A n c ∧ Bx wx h (ngB Y) A2 n2 c2 ∧ Zn wx A n c X k ∧ Zn wx A2 n2 c2 Y k2 ∧ v.heap.size ≤ g ∧ v.heap.size ≤ h ∧ Below v.heap.size v wx
section
variable {v wx : World} {X Y : Int} {k k2 g h n c n2 c2 m d m2 d2 : Nat} {p p2 : Bool} {A A2 B B2 : Option Addr}
theorem BnNew2.ee (hv : Below v.heap.size v wx) (x6 : Bx wx g p B m d) (hg : v.heap.size ≤ g) (x7 : Bx wx h p2 B2 m2 d2) (hh : v.heap.size ≤ h) (hne : g ≠ h) (z : Zn wx A n c X k) (z2 : Zn wx A2 n2 c2 Y k2) : BnNew2 v X Y k k2 (.pointer (some ⟨g, 0, none⟩)) (.pointer (some ⟨h, 0, none⟩)) ((((wx.setCell ⟨g, 0, none⟩ (.bool (ngB X))).setCell ⟨g, 1, none⟩ (.slice A n c)).setCell ⟨h, 0, none⟩ (.bool (ngB Y))).setCell ⟨h, 1, none⟩ (.slice A2 n2 c2)) :=
  ⟨g, h, _, _, _, _, _, _, rfl, rfl, hne, (x6.put _ _ _ _).aside hne, (x7.aside (Ne.symm hne)).put _ _ _ _, (z.put x6).put (x7.aside (Ne.symm hne)), (z2.put x6).put (x7.aside (Ne.symm hne)), hg, hh, put_below (put_below hv hg _ _) hh _ _⟩
theorem BnNew2.ff (hv : Below v.heap.size v wx) (x6 : Bx wx g p B m d) (hg : v.heap.size ≤ g) (x7 : Bx wx h p2 B2 m2 d2) (hh : v.heap.size ≤ h) (hne : g ≠ h) (z : Zn wx A n c X k) (z2 : Zn wx A2 n2 c2 Y k2) : BnNew2 v X Y k k2 (.pointer (some ⟨g, 0, none⟩)) (.pointer (some ⟨h, 0, none⟩)) ((((wx.setCell ⟨h, 0, none⟩ (.bool (ngB Y))).setCell ⟨h, 1, none⟩ (.slice A2 n2 c2)).setCell ⟨g, 0, none⟩ (.bool (ngB X))).setCell ⟨g, 1, none⟩ (.slice A n c)) :=
  ⟨g, h, _, _, _, _, _, _, rfl, rfl, hne, (x6.aside hne).put _ _ _ _, (x7.put _ _ _ _).aside (Ne.symm hne), (z.put x7).put (x6.aside hne), (z2.put x7).put (x6.aside hne), hg, hh, put_below (put_below hv hh _ _) hg _ _⟩
theorem BnNew2.el (hv : Below v.heap.size v wx) (x6 : Bx wx g p B m d) (hg : v.heap.size ≤ g) (z : Zn wx A n c X k) (z2 : Zn wx A2 n2 c2 Y k2) : BnNew2 v X Y k k2 (.pointer (some ⟨g, 0, none⟩)) (.pointer (some ⟨wx.heap.size, 0, none⟩)) (((wx.setCell ⟨g, 0, none⟩ (.bool (ngB X))).setCell ⟨g, 1, none⟩ (.slice A n c)).alloc (.cells #[.bool (ngB Y), .slice A2 n2 c2] 30)) :=
  ⟨g, wx.heap.size, _, _, _, _, _, _, rfl, rfl, Nat.ne_of_lt x6.lt, (x6.put _ _ _ _).alloc _, Bx.at_size (put_size _ _ _ _ _ _), (z.put x6).keep (below_alloc _ _), (z2.put x6).keep (below_alloc _ _), hg, hv.size, bthen (put_below hv hg _ _) (below_alloc _ _)⟩
theorem BnNew2.le (hv : Below v.heap.size v wx) (x6 : Bx wx g p B m d) (hg : v.heap.size ≤ g) (z : Zn wx A n c X k) (z2 : Zn wx A2 n2 c2 Y k2) : BnNew2 v X Y k k2 (.pointer (some ⟨g, 0, none⟩)) (.pointer (some ⟨wx.heap.size, 0, none⟩)) (((wx.alloc (.cells #[.bool (ngB Y), .slice A2 n2 c2] 30)).setCell ⟨g, 0, none⟩ (.bool (ngB X))).setCell ⟨g, 1, none⟩ (.slice A n c)) :=
  ⟨g, wx.heap.size, _, _, _, _, _, _, rfl, rfl, Nat.ne_of_lt x6.lt, (x6.alloc _).put _ _ _ _, (Bx.new _ _ _ _ _).aside (Ne.symm (Nat.ne_of_lt x6.lt)), (z.keep (below_alloc _ _)).put (x6.alloc _), (z2.keep (below_alloc _ _)).put (x6.alloc _), hg, hv.size, put_below (bthen hv (below_alloc _ _)) hg _ _⟩
theorem BnNew2.gl (hv : Below v.heap.size v wx) (x7 : Bx wx h p2 B2 m2 d2) (hh : v.heap.size ≤ h) (z : Zn wx A n c X k) (z2 : Zn wx A2 n2 c2 Y k2) : BnNew2 v X Y k k2 (.pointer (some ⟨wx.heap.size, 0, none⟩)) (.pointer (some ⟨h, 0, none⟩)) (((wx.setCell ⟨h, 0, none⟩ (.bool (ngB Y))).setCell ⟨h, 1, none⟩ (.slice A2 n2 c2)).alloc (.cells #[.bool (ngB X), .slice A n c] 30)) :=
  ⟨wx.heap.size, h, _, _, _, _, _, _, rfl, rfl, Ne.symm (Nat.ne_of_lt x7.lt), Bx.at_size (put_size _ _ _ _ _ _), (x7.put _ _ _ _).alloc _, (z.put x7).keep (below_alloc _ _), (z2.put x7).keep (below_alloc _ _), hv.size, hh, bthen (put_below hv hh _ _) (below_alloc _ _)⟩
theorem BnNew2.lg (hv : Below v.heap.size v wx) (x7 : Bx wx h p2 B2 m2 d2) (hh : v.heap.size ≤ h) (z : Zn wx A n c X k) (z2 : Zn wx A2 n2 c2 Y k2) : BnNew2 v X Y k k2 (.pointer (some ⟨wx.heap.size, 0, none⟩)) (.pointer (some ⟨h, 0, none⟩)) (((wx.alloc (.cells #[.bool (ngB X), .slice A n c] 30)).setCell ⟨h, 0, none⟩ (.bool (ngB Y))).setCell ⟨h, 1, none⟩ (.slice A2 n2 c2)) :=
  ⟨wx.heap.size, h, _, _, _, _, _, _, rfl, rfl, Ne.symm (Nat.ne_of_lt x7.lt), (Bx.new _ _ _ _ _).aside (Ne.symm (Nat.ne_of_lt x7.lt)), (x7.alloc _).put _ _ _ _, (z.keep (below_alloc _ _)).put (x7.alloc _), (z2.keep (below_alloc _ _)).put (x7.alloc _), hv.size, hh, put_below (bthen hv (below_alloc _ _)) hh _ _⟩
theorem BnNew2.ll (hv : Below v.heap.size v wx) (z : Zn wx A n c X k) (z2 : Zn wx A2 n2 c2 Y k2) : BnNew2 v X Y k k2 (.pointer (some ⟨wx.heap.size, 0, none⟩)) (.pointer (some ⟨wx.heap.size + 1, 0, none⟩)) ((wx.alloc (.cells #[.bool (ngB X), .slice A n c] 30)).alloc (.cells #[.bool (ngB Y), .slice A2 n2 c2] 30)) :=
  ⟨wx.heap.size, wx.heap.size + 1, _, _, _, _, _, _, rfl, rfl, by omega, (Bx.new _ _ _ _ _).alloc _, Bx.at_size (alloc_size _ _), z.keep (below_alloc2 _ _ _), z2.keep (below_alloc2 _ _ _), hv.size, Nat.le_succ_of_le hv.size, bthen hv (below_alloc2 _ _ _)⟩
theorem BnNew2.mm (hv : Below v.heap.size v wx) (z : Zn wx A n c X k) (z2 : Zn wx A2 n2 c2 Y k2) : BnNew2 v X Y k k2 (.pointer (some ⟨wx.heap.size + 1, 0, none⟩)) (.pointer (some ⟨wx.heap.size, 0, none⟩)) ((wx.alloc (.cells #[.bool (ngB Y), .slice A2 n2 c2] 30)).alloc (.cells #[.bool (ngB X), .slice A n c] 30)) :=
  ⟨wx.heap.size + 1, wx.heap.size, _, _, _, _, _, _, rfl, rfl, by omega, Bx.at_size (alloc_size _ _), (Bx.new _ _ _ _ _).alloc _, z.keep (below_alloc2 _ _ _), z2.keep (below_alloc2 _ _ _), Nat.le_succ_of_le hv.size, hv.size, bthen hv (below_alloc2 _ _ _)⟩
end
end Go.Proofs.YtbpamkpclofnbaaGreat
namespace Go.Proofs.YtbpamkpclofnbaaGreat
open Go.RowKit
set_option linter.unusedVariables false
set_option maxRecDepth 100000


/-- Block g is a slice's of n integers, with room for cap, and holds no limb. -/
def Oz (w : World) (g n cap : Nat) (xs : List Value) : Prop :=
  ∃ cur : Array Value, w.heap[g]? = some (.cells cur 30 (0, 0)) ∧ n ≤ cap ∧ cap ≤ maxLen ∧ cur.size = cap * 2 ∧ cur.toList.take (n * 2) = xs ∧ xs.length = n * 2 ∧ Kd cur.toList
section
variable {w w' : World} {g n cap : Nat} {xs : List Value}
theorem Oz.lt (h : Oz w g n cap xs) : g < w.heap.size := by
  obtain ⟨cur, h, _⟩ := h
  exact (Array.getElem?_eq_some_iff.1 h).1
theorem Oz.to (h : Oz w g n cap xs) (hb : w'.heap[g]? = w.heap[g]?) : Oz w' g n cap xs := by
  obtain ⟨cur, h, hc⟩ := h
  exact ⟨cur, hb.trans h, hc⟩
theorem Oz.keep (h : Oz w g n cap xs) (hb : Below w.heap.size w w') : Oz w' g n cap xs := h.to (hb.block g h.lt)
instance Oz.mv {v w : World} : Mv (Oz v g n cap xs) v w (Oz w g n cap xs) := ⟨fun h hb => Oz.keep h hb⟩
theorem Oz.alloc (h : Oz w g n cap xs) (o : Obj) : Oz (w.alloc o) g n cap xs := h.to (Below.heap_alloc w o g h.lt)
theorem Oz.drw (h : Oz w g n cap xs) : Oz w.drew g n cap xs := h
theorem Oz.far (h : Oz w g n cap xs) {z : Addr} (hp : g ≠ z.block) (u : Value) : Oz (w.setCell z u) g n cap xs := h.to (Below.heap_setCell w z u g hp)
theorem Oz.by_ {k : Nat} (h : Oz w g n cap xs) (hg : w.grownBy w' (some k)) (hne : g ≠ k) : Oz w' g n cap xs := h.to (hg.block g h.lt (fun e => by injection e with e; exact hne e))
theorem Oz.cell (h : Oz w g n cap xs) (i : Nat) (u : Value) (hu : w.cell? ⟨g, i, none⟩ = some u) : ∀ x, u ≠ .int .u64 x := by
  obtain ⟨cur, h, _, _, _, _, _, hk⟩ := h
  rw [cell_of_row w g i _ _ (0, 0) h] at hu
  exact hk u (by have := Array.mem_of_getElem? hu; simpa using this)
/-- An integer's limbs stay where they are: the slice's block holds none. -/
theorem Zn.by_ {A : Option Addr} {m c K : Nat} {X : Int} (z : Zn w A m c X K) (h : Oz w g n cap xs) (hg : w.grownBy w' (some g)) : Zn w' A m c X K := by
  refine ⟨⟨z.1.1, z.1.2.1, z.1.2.2.1, z.1.2.2.2.1, fun hn => ?_⟩, z.2⟩
  obtain ⟨d, off, e, hd, hc⟩ := z.1.at_ hn
  have hne : d ≠ g := fun e2 => by
    subst e2
    have h0 := hc 0 (by have := z.1.len; omega)
    exact h.cell _ _ h0 _ rfl
  refine ⟨d, off, e, Nat.lt_of_lt_of_le hd hg.size, fun k hk => ?_⟩
  rw [← hc k hk]
  exact World.cell?_of_block (hg.block d hd (fun e => by injection e with e; exact hne e))
end
theorem kd_app {a b : List Value} (ha : Kd a) (hb : Kd b) : Kd (a ++ b) := fun u hu x => by
  rcases List.mem_append.1 hu with h | h
  · exact ha u h x
  · exact hb u h x
theorem kd_two (b : Bool) (A : Option Addr) (m c : Nat) : Kd [.bool b, .slice A m c] := fun u hu x => by
  simp at hu
  rcases hu with rfl | rfl <;> simp
theorem two_cells {w : World} {g0 : Nat} {b : Bool} {A : Option Addr} {m c : Nat} (h0 : w.cell? ⟨g0, 0, none⟩ = some (.bool b)) (h1 : w.cell? ⟨g0, 1, none⟩ = some (.slice A m c)) :
    ∀ j u, [Value.bool b, Value.slice A m c][j]? = some u → w.cell? ((⟨g0, 0, none⟩ : Addr).add j) = some u := by
  intro j u hj
  match j, hj with
  | 0, hj => simp at hj; subst hj; simpa [Addr.add] using h0
  | 1, hj => simp at hj; subst hj; simpa [Addr.add] using h1
theorem Rd.by_ {w w' : World} {g n cap m c : Nat} {xs : List Value} {A : Option Addr} {l : List Int} (z : Rd w w.heap.size A m c l) (h : Oz w g n cap xs) (hg : w.grownBy w' (some g)) : Rd w' w'.heap.size A m c l := by
  refine ⟨z.1, z.2.1, z.2.2.1, z.2.2.2.1, fun hn => ?_⟩
  obtain ⟨d, off, e, hd, hc⟩ := z.at_ hn
  have hne : d ≠ g := fun e2 => by
    subst e2
    have h0 := hc 0 (by have := z.len; omega)
    exact h.cell _ _ h0 _ rfl
  refine ⟨d, off, e, Nat.lt_of_lt_of_le hd hg.size, fun k hk => ?_⟩
  rw [← hc k hk]
  exact World.cell?_of_block (hg.block d hd (fun e => by injection e with e; exact hne e))
/-- What an append onto s leaves: every other block is as it was, and so is every integer. -/
structure Gr (s : Value) (W w' : World) : Prop where
  grown : W.grownBy w' s.ownBlock
  rd : ∀ A n c l, Rd W W.heap.size A n c l → Rd w' w'.heap.size A n c l
section
variable {w w' : World} {s : Value} {g : Nat}
theorem Zn.gr {A : Option Addr} {n c k : Nat} {X : Int} (h : Zn w A n c X k) (hg : Gr s w w') : Zn w' A n c X k := ⟨hg.rd _ _ _ _ h.1, h.2⟩
theorem Zr.gr {b : Bool} {A : Option Addr} {n c k : Nat} {X : Int} (h : Zr w b A n c X k) (hg : Gr s w w') : Zr w' b A n c X k := by
  obtain ⟨l, h1, h2, h3⟩ := h
  exact ⟨l, hg.rd _ _ _ _ h1, h2, h3⟩
theorem Gr.at_ (hg : Gr s w w') (hl : g < w.heap.size) (hne : s.ownBlock ≠ some g) : w'.heap[g]? = w.heap[g]? := hg.grown.block g hl (fun e => hne e.symm)
theorem Bx.gr {b : Bool} {A : Option Addr} {n c : Nat} (h : Bx w g b A n c) (hg : Gr s w w') (hne : s.ownBlock ≠ some g) : Bx w' g b A n c := (hg.at_ h.lt hne).trans h
theorem Gr.alloc {o : Obj} (hg : Gr s (w.alloc o) w') : Gr s w w' := by
  have hs : w.heap.size < (w.alloc o).heap.size := by simp
  exact ⟨⟨hg.grown.os, hg.grown.tape, hg.grown.output, Nat.le_trans (Nat.le_of_lt hs) hg.grown.size, fun k hk hr => (hg.grown.block k (by omega) hr).trans (heap_alloc_old w o hk)⟩, fun A n c l h => hg.rd _ _ _ _ (h.go (below_alloc w o))⟩
end
/-- These cells are these integers, each in normal form. -/
def Cz (w : World) (J : Nat) : List Value → List Int → Prop
  | xs, [] => xs = []
  | xs, X :: l => ∃ A n c ys, xs = Value.bool (ngB X) :: .slice A n c :: ys ∧ Zn w A n c X J ∧ Cz w J ys l
theorem Cz.snoc {w : World} {J : Nat} {A : Option Addr} {n c : Nat} {X : Int} (z : Zn w A n c X J) : ∀ {l : List Int} {xs : List Value}, Cz w J xs l → Cz w J (xs ++ [.bool (ngB X), .slice A n c]) (l ++ [X])
  | [], xs, h => by
    have e : xs = [] := h
    subst e
    exact ⟨A, n, c, [], rfl, z, rfl⟩
  | Y :: l, xs, h => by
    obtain ⟨A1, n1, c1, ys, rfl, hz, hc⟩ := h
    exact ⟨A1, n1, c1, ys ++ [.bool (ngB X), .slice A n c], rfl, hz, Cz.snoc z hc⟩
theorem Cz.to {w w' : World} {J : Nat} (hz : ∀ A n c X, Zn w A n c X J → Zn w' A n c X J) : ∀ {l : List Int} {xs : List Value}, Cz w J xs l → Cz w' J xs l
  | [], xs, h => h
  | Y :: l, xs, h => by
    obtain ⟨A1, n1, c1, ys, rfl, hz1, hc⟩ := h
    exact ⟨A1, n1, c1, ys, rfl, hz _ _ _ _ hz1, Cz.to hz hc⟩
/-- The value s is a slice of the integers l: nil for none, else in a block of its own from B on. -/
def Gz (w : World) (B J : Nat) (s : Value) (l : List Int) : Prop :=
  (s = .slice none 0 0 ∧ l = []) ∨ ∃ g cap xs, s = .slice (some ⟨g, 0, none⟩) l.length cap ∧ B ≤ g ∧ Oz w g l.length cap xs ∧ Cz w J xs l
/-- Two slices that do not lie in one block. -/
def Ap (s t : Value) : Prop := ∀ g, s.ownBlock = some g → t.ownBlock ≠ some g
/-- s' is where s was, or in a block that is new in w. -/
def Nw (w : World) (s s' : Value) : Prop := s'.ownBlock = s.ownBlock ∨ ∃ k, w.heap.size ≤ k ∧ s'.ownBlock = some k
section
variable {w w' : World} {B J : Nat} {s s' t : Value} {l : List Int}
theorem Gz.nil (w : World) (B J : Nat) : Gz w B J (.slice none 0 0) [] := .inl ⟨rfl, rfl⟩
theorem Gz.keep (h : Gz w B J s l) (hb : Below w.heap.size w w') : Gz w' B J s l := by
  rcases h with h | ⟨g, cap, xs, h1, h2, h3, h4⟩
  · exact .inl h
  · exact .inr ⟨g, cap, xs, h1, h2, h3.keep hb, h4.to fun _ _ _ _ z => z.keep hb⟩
instance Gz.mv {v w : World} : Mv (Gz v B J s l) v w (Gz w B J s l) := ⟨fun h hb => Gz.keep h hb⟩
theorem Gz.drw (h : Gz w B J s l) : Gz w.drew B J s l := h.keep (below_drew (Below.refl _ _))
theorem Gz.lt (h : Gz w B J s l) {k : Nat} (hk : s.ownBlock = some k) : B ≤ k ∧ k < w.heap.size := by
  rcases h with ⟨rfl, _⟩ | ⟨g, cap, xs, rfl, h2, h3, h4⟩
  · simp [Value.ownBlock] at hk
  · simp [Value.ownBlock] at hk
    subst hk
    exact ⟨h2, h3.lt⟩
theorem Gz.ne (h : Gz w B J s l) {k : Nat} (hk : k < B ∨ w.heap.size ≤ k) : s.ownBlock ≠ some k := fun e => by
  have := h.lt e
  omega
theorem Gz.gr (h : Gz w B J t l) (hg : Gr s w w') (hap : Ap s t) : Gz w' B J t l := by
  rcases h with h | ⟨g, cap, xs, rfl, h2, h3, h4⟩
  · exact .inl h
  · exact .inr ⟨g, cap, xs, rfl, h2, h3.to (hg.at_ h3.lt (fun e => hap g e rfl)), h4.to fun _ _ _ _ z => z.gr hg⟩
theorem Ap.nil (t : Value) : Ap (.slice none 0 0) t := fun g h => by simp [Value.ownBlock] at h
theorem Ap.symm (h : Ap s t) : Ap t s := fun g h1 h2 => h g h2 h1
theorem Gr.below {A : Nat} {w0 : World} (hb : Below A w0 w) (hs : A ≤ w.heap.size) (h : Gz w B J s l) (hg : Gr s w w') (hB : A ≤ B) : Below A w0 w' :=
  ⟨hg.grown.os.trans hb.os, hg.grown.tape.trans hb.tape, hg.grown.output.trans hb.output, Nat.le_trans hb.size hg.grown.size, fun k hk => (hg.at_ (Nat.lt_of_lt_of_le hk hs) (h.ne (.inl (by omega)))).trans (hb.block k hk)⟩
end
/-- What an append of the integer X onto s has made. -/
def Pu (V : World) (B J : Nat) (s : Value) (l : List Int) (X : Int) (s' : Value) (w' : World) : Prop := Gz w' B J s' (l ++ [X]) ∧ Gr s V w' ∧ Nw V s s'
theorem Pu.over {V V2 w' : World} {B J : Nat} {s s' : Value} {l : List Int} {X : Int} (h : Pu V2 B J s l X s' w') (hb : Below V.heap.size V V2) : Pu V B J s l X s' w' := by
  refine ⟨h.1, ⟨⟨h.2.1.grown.os.trans hb.os, h.2.1.grown.tape.trans hb.tape, h.2.1.grown.output.trans hb.output, Nat.le_trans hb.size h.2.1.grown.size, fun k hk hr => (h.2.1.grown.block k (Nat.lt_of_lt_of_le hk hb.size) hr).trans (hb.block k hk)⟩, fun _ _ _ _ h' => h.2.1.rd _ _ _ _ (h'.go hb)⟩, ?_⟩
  rcases h.2.2 with e | ⟨k, hk, e⟩
  · exact .inl e
  · exact .inr ⟨k, Nat.le_trans hb.size hk, e⟩
end Go.Proofs.YtbpamkpclofnbaaGreat
