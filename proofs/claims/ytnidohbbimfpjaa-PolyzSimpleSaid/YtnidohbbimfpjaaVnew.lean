/-
  Two new variables for integers; the first integers of a block of one's own.
-/
import Derived.Test.YtnidohbbimfpjaaVmem
namespace Go.Proofs.Ytnidohbbimfpjaa
open Go.RowKit
set_option linter.unusedVariables false

theorem Ec.alloc {w : World} {d o n c : Nat} {b : Bool} {A : Option Addr} (h : Ec w d o b A n c) (x : Obj) : Ec (w.alloc x) d o b A n c := h.keep (below_alloc _ _)
theorem Si.neg {X : Int} {k : Nat} (h : Si X k) : Si (-X) k := by unfold Si; rw [Int.natAbs_neg]; exact h
theorem Si.sub {X Y : Int} {k : Nat} (h : Si X k) (h2 : Si Y k) : Si (X - Y) (k + 1) := by rw [Int.sub_eq_add_neg]; exact h.add h2.neg
theorem Si.zero (k : Nat) : Si 0 k := by unfold Si Sm; exact Nat.pow_pos Wd0
theorem Zn.si {w : World} {A : Option Addr} {n c k : Nat} {X : Int} (h : Zn w A n c X k) : Si X k := h.zr.si
theorem take_set (L : List Int) (m k : Nat) (X : Int) : (L.set k X).take m = (L.take m).set k X := by
  induction L generalizing m k with
  | nil => simp
  | cons a L ih => cases m <;> cases k <;> simp [ih]
/-- The first m integers of block g are R. -/
def Pt (w : World) (g c m : Nat) (R : List Int) (K : Nat) : Prop := ∃ L, Pw w g L K ∧ L.length = c ∧ m ≤ c ∧ R = L.take m
section
variable {w v W : World} {B g h c m n d J K : Nat} {A : Option Addr} {X : Int} {R L : List Int}
theorem Pt.len (p : Pt w g c m R K) : R.length = m := by
  obtain ⟨L, _, h1, h2, rfl⟩ := p
  simp; omega
theorem Pt.lt (p : Pt w g c m R K) : g < w.heap.size := by
  obtain ⟨L, h, _⟩ := p
  exact h.lt
theorem Pt.keep (p : Pt w g c m R K) (hb : Below w.heap.size w v) : Pt v g c m R K := by
  obtain ⟨L, h, h1⟩ := p
  exact ⟨L, h.keep hb, h1⟩
theorem Pt.drw (p : Pt w g c m R K) : Pt w.drew g c m R K := p
theorem Pt.fr (p : Pt w g c m R K) (i : Nat) : w.frozen? ⟨g, i, none⟩ = false := by
  obtain ⟨L, h, h1⟩ := p
  exact h.fr i
theorem Pt.ec (p : Pt w g c m R K) {k : Nat} (hk : k < R.length) : ∃ A n c, Ec w g (k * 2) (ngB R[k]) A n c ∧ Zn w A n c R[k] K := by
  obtain ⟨L, h, h1, h2, rfl⟩ := p
  rw [List.length_take] at hk
  rw [List.getElem_take]
  exact h.ec (by omega)
theorem Pt.st {F : World → Prop} {k : Nat} (p : Pt W g c m R K) (hk : k < R.length) (z : Zn W A n d X K) (hF : ∀ v, Sto W g v → Pt v g c m (R.set k X) K → F v) :
    F ((W.setCell ⟨g, k * 2, none⟩ (.bool (ngB X))).setCell ⟨g, k * 2 + 1, none⟩ (.slice A n d)) := by
  obtain ⟨L, h, h1, h2, rfl⟩ := p
  rw [List.length_take] at hk
  exact h.st (by omega) z fun v s p => hF v s ⟨_, p, by simpa using h1, h2, (take_set _ _ _ _).symm⟩
theorem Pt.stc {C : Program} {f : Nat} {a : Array Value} {Q : Ending → World → Prop} {k : Nat} (p : Pt W g c m R K) (hk : k < R.length) (z : Zn W A n d X K) (hF : ∀ v, Sto W g v → Pt v g c m (R.set k X) K → Calls C f a v Q) :
    Calls C f a ((W.setCell ⟨g, k * 2, none⟩ (.bool (ngB X))).setCell ⟨g, k * 2 + 1, none⟩ (.slice A n d)) Q := p.st (F := fun v => Calls C f a v Q) hk z hF
theorem Pt.po (p : Pt w g c m R K) (hB : B ≤ g) : Po w B (some ⟨g, 0, none⟩) m c R K := by
  obtain ⟨L, h, h1, h2, e⟩ := p
  exact .inr ⟨g, L, rfl, hB, h1.symm, h2, h, e⟩
theorem Pw.pt (p : Pw w g L K) : Pt w g L.length L.length L K := ⟨L, p, rfl, Nat.le_refl _, by simp⟩
theorem Pt.kto (p : Pt w g c m R J) (hK : J ≤ K) : Pt w g c m R K := by
  obtain ⟨L, h, h1⟩ := p
  exact ⟨L, h.kto hK, h1⟩
theorem Pt.take (p : Pt w g c m R K) {j : Nat} (hj : j ≤ m) : Pt w g c j (R.take j) K := by
  obtain ⟨L, h, h1, h2, rfl⟩ := p
  exact ⟨L, h, h1, by omega, by rw [List.take_take, Nat.min_eq_left hj]⟩
instance : Mv (Pt W g c m R K) W v (Pt v g c m R K) := ⟨fun x y => x.keep y⟩
instance : Ms (Pt W h c m R K) W v g (h ≠ g) (Pt v h c m R K) := ⟨fun s hg p => by
  obtain ⟨L, h1, h2⟩ := p
  exact ⟨L, Ms.ms s hg h1, h2⟩⟩
end
theorem Bx.at_size {w : World} {N : Nat} {b : Bool} {A : Option Addr} {n c : Nat} (h : w.heap.size = N) : Bx (w.alloc (.cells #[.bool b, .slice A n c] 32)) N b A n c := by subst h; exact Bx.new w b A n c
theorem put_size (w : World) (g : Nat) (b : Bool) (A : Option Addr) (n c : Nat) : ((w.setCell ⟨g, 0, none⟩ (.bool b)).setCell ⟨g, 1, none⟩ (.slice A n c)).heap.size = w.heap.size := by simp [World.setCell]
theorem alloc_size (w : World) (o : Obj) : (w.alloc o).heap.size = w.heap.size + 1 := by simp
/-- Two new boxes of integers in normal form, in a world that is otherwise as it was. -/
def BnNew2 (v : World) (X Y : Int) (k k2 : Nat) (s t : Value) (wx : World) : Prop :=
  ∃ g h A n c A2 n2 c2, s = .pointer (some ⟨g, 0, none⟩) ∧ t = .pointer (some ⟨h, 0, none⟩) ∧ g ≠ h ∧ Bx wx g (ngB X) A n c ∧ Bx wx h (ngB Y) A2 n2 c2 ∧ Zn wx A n c X k ∧ Zn wx A2 n2 c2 Y k2 ∧ v.heap.size ≤ g ∧ v.heap.size ≤ h ∧ Below v.heap.size v wx
section
variable {v wx : World} {X Y : Int} {k k2 g h n c n2 c2 m d m2 d2 : Nat} {p p2 : Bool} {A A2 B B2 : Option Addr}
theorem BnNew2.ee (hv : Below v.heap.size v wx) (x6 : Bx wx g p B m d) (hg : v.heap.size ≤ g) (x7 : Bx wx h p2 B2 m2 d2) (hh : v.heap.size ≤ h) (hne : g ≠ h) (z : Zn wx A n c X k) (z2 : Zn wx A2 n2 c2 Y k2) : BnNew2 v X Y k k2 (.pointer (some ⟨g, 0, none⟩)) (.pointer (some ⟨h, 0, none⟩)) ((((wx.setCell ⟨g, 0, none⟩ (.bool (ngB X))).setCell ⟨g, 1, none⟩ (.slice A n c)).setCell ⟨h, 0, none⟩ (.bool (ngB Y))).setCell ⟨h, 1, none⟩ (.slice A2 n2 c2)) :=
  ⟨g, h, _, _, _, _, _, _, rfl, rfl, hne, (x6.put _ _ _ _).aside hne, (x7.aside (Ne.symm hne)).put _ _ _ _, (z.put x6).put (x7.aside (Ne.symm hne)), (z2.put x6).put (x7.aside (Ne.symm hne)), hg, hh, put_below (put_below hv hg _ _) hh _ _⟩
theorem BnNew2.ff (hv : Below v.heap.size v wx) (x6 : Bx wx g p B m d) (hg : v.heap.size ≤ g) (x7 : Bx wx h p2 B2 m2 d2) (hh : v.heap.size ≤ h) (hne : g ≠ h) (z : Zn wx A n c X k) (z2 : Zn wx A2 n2 c2 Y k2) : BnNew2 v X Y k k2 (.pointer (some ⟨g, 0, none⟩)) (.pointer (some ⟨h, 0, none⟩)) ((((wx.setCell ⟨h, 0, none⟩ (.bool (ngB Y))).setCell ⟨h, 1, none⟩ (.slice A2 n2 c2)).setCell ⟨g, 0, none⟩ (.bool (ngB X))).setCell ⟨g, 1, none⟩ (.slice A n c)) :=
  ⟨g, h, _, _, _, _, _, _, rfl, rfl, hne, (x6.aside hne).put _ _ _ _, (x7.put _ _ _ _).aside (Ne.symm hne), (z.put x7).put (x6.aside hne), (z2.put x7).put (x6.aside hne), hg, hh, put_below (put_below hv hh _ _) hg _ _⟩
theorem BnNew2.el (hv : Below v.heap.size v wx) (x6 : Bx wx g p B m d) (hg : v.heap.size ≤ g) (z : Zn wx A n c X k) (z2 : Zn wx A2 n2 c2 Y k2) : BnNew2 v X Y k k2 (.pointer (some ⟨g, 0, none⟩)) (.pointer (some ⟨wx.heap.size, 0, none⟩)) (((wx.setCell ⟨g, 0, none⟩ (.bool (ngB X))).setCell ⟨g, 1, none⟩ (.slice A n c)).alloc (.cells #[.bool (ngB Y), .slice A2 n2 c2] 32)) :=
  ⟨g, wx.heap.size, _, _, _, _, _, _, rfl, rfl, Nat.ne_of_lt x6.lt, (x6.put _ _ _ _).alloc _, Bx.at_size (put_size _ _ _ _ _ _), (z.put x6).keep (below_alloc _ _), (z2.put x6).keep (below_alloc _ _), hg, hv.size, bthen (put_below hv hg _ _) (below_alloc _ _)⟩
theorem BnNew2.le (hv : Below v.heap.size v wx) (x6 : Bx wx g p B m d) (hg : v.heap.size ≤ g) (z : Zn wx A n c X k) (z2 : Zn wx A2 n2 c2 Y k2) : BnNew2 v X Y k k2 (.pointer (some ⟨g, 0, none⟩)) (.pointer (some ⟨wx.heap.size, 0, none⟩)) (((wx.alloc (.cells #[.bool (ngB Y), .slice A2 n2 c2] 32)).setCell ⟨g, 0, none⟩ (.bool (ngB X))).setCell ⟨g, 1, none⟩ (.slice A n c)) :=
  ⟨g, wx.heap.size, _, _, _, _, _, _, rfl, rfl, Nat.ne_of_lt x6.lt, (x6.alloc _).put _ _ _ _, (Bx.new _ _ _ _ _).aside (Ne.symm (Nat.ne_of_lt x6.lt)), (z.keep (below_alloc _ _)).put (x6.alloc _), (z2.keep (below_alloc _ _)).put (x6.alloc _), hg, hv.size, put_below (bthen hv (below_alloc _ _)) hg _ _⟩
theorem BnNew2.gl (hv : Below v.heap.size v wx) (x7 : Bx wx h p2 B2 m2 d2) (hh : v.heap.size ≤ h) (z : Zn wx A n c X k) (z2 : Zn wx A2 n2 c2 Y k2) : BnNew2 v X Y k k2 (.pointer (some ⟨wx.heap.size, 0, none⟩)) (.pointer (some ⟨h, 0, none⟩)) (((wx.setCell ⟨h, 0, none⟩ (.bool (ngB Y))).setCell ⟨h, 1, none⟩ (.slice A2 n2 c2)).alloc (.cells #[.bool (ngB X), .slice A n c] 32)) :=
  ⟨wx.heap.size, h, _, _, _, _, _, _, rfl, rfl, Ne.symm (Nat.ne_of_lt x7.lt), Bx.at_size (put_size _ _ _ _ _ _), (x7.put _ _ _ _).alloc _, (z.put x7).keep (below_alloc _ _), (z2.put x7).keep (below_alloc _ _), hv.size, hh, bthen (put_below hv hh _ _) (below_alloc _ _)⟩
theorem BnNew2.lg (hv : Below v.heap.size v wx) (x7 : Bx wx h p2 B2 m2 d2) (hh : v.heap.size ≤ h) (z : Zn wx A n c X k) (z2 : Zn wx A2 n2 c2 Y k2) : BnNew2 v X Y k k2 (.pointer (some ⟨wx.heap.size, 0, none⟩)) (.pointer (some ⟨h, 0, none⟩)) (((wx.alloc (.cells #[.bool (ngB X), .slice A n c] 32)).setCell ⟨h, 0, none⟩ (.bool (ngB Y))).setCell ⟨h, 1, none⟩ (.slice A2 n2 c2)) :=
  ⟨wx.heap.size, h, _, _, _, _, _, _, rfl, rfl, Ne.symm (Nat.ne_of_lt x7.lt), (Bx.new _ _ _ _ _).aside (Ne.symm (Nat.ne_of_lt x7.lt)), (x7.alloc _).put _ _ _ _, (z.keep (below_alloc _ _)).put (x7.alloc _), (z2.keep (below_alloc _ _)).put (x7.alloc _), hv.size, hh, put_below (bthen hv (below_alloc _ _)) hh _ _⟩
theorem BnNew2.ll (hv : Below v.heap.size v wx) (z : Zn wx A n c X k) (z2 : Zn wx A2 n2 c2 Y k2) : BnNew2 v X Y k k2 (.pointer (some ⟨wx.heap.size, 0, none⟩)) (.pointer (some ⟨wx.heap.size + 1, 0, none⟩)) ((wx.alloc (.cells #[.bool (ngB X), .slice A n c] 32)).alloc (.cells #[.bool (ngB Y), .slice A2 n2 c2] 32)) :=
  ⟨wx.heap.size, wx.heap.size + 1, _, _, _, _, _, _, rfl, rfl, by omega, (Bx.new _ _ _ _ _).alloc _, Bx.at_size (alloc_size _ _), z.keep (below_alloc2 _ _ _), z2.keep (below_alloc2 _ _ _), hv.size, Nat.le_succ_of_le hv.size, bthen hv (below_alloc2 _ _ _)⟩
theorem BnNew2.mm (hv : Below v.heap.size v wx) (z : Zn wx A n c X k) (z2 : Zn wx A2 n2 c2 Y k2) : BnNew2 v X Y k k2 (.pointer (some ⟨wx.heap.size + 1, 0, none⟩)) (.pointer (some ⟨wx.heap.size, 0, none⟩)) ((wx.alloc (.cells #[.bool (ngB Y), .slice A2 n2 c2] 32)).alloc (.cells #[.bool (ngB X), .slice A n c] 32)) :=
  ⟨wx.heap.size + 1, wx.heap.size, _, _, _, _, _, _, rfl, rfl, by omega, Bx.at_size (alloc_size _ _), (Bx.new _ _ _ _ _).alloc _, z.keep (below_alloc2 _ _ _), z2.keep (below_alloc2 _ _ _), Nat.le_succ_of_le hv.size, hv.size, bthen hv (below_alloc2 _ _ _)⟩
end
end Go.Proofs.Ytnidohbbimfpjaa
