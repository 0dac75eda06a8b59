/-
  Two new variables that a statement makes, wherever they lie.
-/
import Derived.Test.YtiikmjnnlckiiaaLint
import Derived.Deep.DeepCutAuto
namespace Go.Proofs.Ytiikmjnnlckiiaa
open Go.RowKit
set_option linter.unusedVariables false

/-- Two new boxes, in a world that is otherwise as it was. -/
def BxNew2 (v : World) (X Y : Int) (k k2 : Nat) (s t : Value) (wx : World) : Prop :=
  ∃ g h b A n c b2 A2 n2 c2, s = .pointer (some ⟨g, 0, none⟩) ∧ t = .pointer (some ⟨h, 0, none⟩) ∧ g ≠ h ∧ Bx wx g b A n c ∧ Bx wx h b2 A2 n2 c2 ∧ Zr wx b A n c X k ∧ Zr wx b2 A2 n2 c2 Y k2 ∧ v.heap.size ≤ g ∧ v.heap.size ≤ h ∧ Below v.heap.size v wx
theorem Bx.at_size {w : World} {N : Nat} {b : Bool} {A : Option Addr} {n c : Nat} (h : w.heap.size = N) : Bx (w.alloc (.cells #[.bool b, .slice A n c] 25)) N b A n c := by subst h; exact Bx.new w b A n c
theorem put_size (w : World) (g : Nat) (b : Bool) (A : Option Addr) (n c : Nat) : ((w.setCell ⟨g, 0, none⟩ (.bool b)).setCell ⟨g, 1, none⟩ (.slice A n c)).heap.size = w.heap.size := by simp [World.setCell]
theorem alloc_size (w : World) (o : Obj) : (w.alloc o).heap.size = w.heap.size + 1 := by simp
section
variable {v wx : World} {X Y : Int} {k k2 g h n c n2 c2 m d m2 d2 : Nat} {b b2 p p2 : Bool} {A A2 B B2 : Option Addr}
theorem BxNew2.ee (hv : Below v.heap.size v wx) (x6 : Bx wx g p B m d) (hg : v.heap.size ≤ g) (x7 : Bx wx h p2 B2 m2 d2) (hh : v.heap.size ≤ h) (hne : g ≠ h) (z : Zr wx b A n c X k) (z2 : Zr wx b2 A2 n2 c2 Y k2) : BxNew2 v X Y k k2 (.pointer (some ⟨g, 0, none⟩)) (.pointer (some ⟨h, 0, none⟩)) ((((wx.setCell ⟨g, 0, none⟩ (.bool b)).setCell ⟨g, 1, none⟩ (.slice A n c)).setCell ⟨h, 0, none⟩ (.bool b2)).setCell ⟨h, 1, none⟩ (.slice A2 n2 c2)) :=
  ⟨g, h, _, _, _, _, _, _, _, _, rfl, rfl, hne, (x6.put _ _ _ _).aside hne, (x7.aside (Ne.symm hne)).put _ _ _ _, (z.put x6).put (x7.aside (Ne.symm hne)), (z2.put x6).put (x7.aside (Ne.symm hne)), hg, hh, put_below (put_below hv hg _ _) hh _ _⟩
theorem BxNew2.ff (hv : Below v.heap.size v wx) (x6 : Bx wx g p B m d) (hg : v.heap.size ≤ g) (x7 : Bx wx h p2 B2 m2 d2) (hh : v.heap.size ≤ h) (hne : g ≠ h) (z : Zr wx b A n c X k) (z2 : Zr wx b2 A2 n2 c2 Y k2) : BxNew2 v X Y k k2 (.pointer (some ⟨g, 0, none⟩)) (.pointer (some ⟨h, 0, none⟩)) ((((wx.setCell ⟨h, 0, none⟩ (.bool b2)).setCell ⟨h, 1, none⟩ (.slice A2 n2 c2)).setCell ⟨g, 0, none⟩ (.bool b)).setCell ⟨g, 1, none⟩ (.slice A n c)) :=
  ⟨g, h, _, _, _, _, _, _, _, _, rfl, rfl, hne, (x6.aside hne).put _ _ _ _, (x7.put _ _ _ _).aside (Ne.symm hne), (z.put x7).put (x6.aside hne), (z2.put x7).put (x6.aside hne), hg, hh, put_below (put_below hv hh _ _) hg _ _⟩
theorem BxNew2.el (hv : Below v.heap.size v wx) (x6 : Bx wx g p B m d) (hg : v.heap.size ≤ g) (z : Zr wx b A n c X k) (z2 : Zr wx b2 A2 n2 c2 Y k2) : BxNew2 v X Y k k2 (.pointer (some ⟨g, 0, none⟩)) (.pointer (some ⟨wx.heap.size, 0, none⟩)) (((wx.setCell ⟨g, 0, none⟩ (.bool b)).setCell ⟨g, 1, none⟩ (.slice A n c)).alloc (.cells #[.bool b2, .slice A2 n2 c2] 25)) :=
  ⟨g, wx.heap.size, _, _, _, _, _, _, _, _, rfl, rfl, Nat.ne_of_lt x6.lt, (x6.put _ _ _ _).alloc _, Bx.at_size (put_size _ _ _ _ _ _), (z.put x6).keep (below_alloc _ _), (z2.put x6).keep (below_alloc _ _), hg, hv.size, bthen (put_below hv hg _ _) (below_alloc _ _)⟩
theorem BxNew2.le (hv : Below v.heap.size v wx) (x6 : Bx wx g p B m d) (hg : v.heap.size ≤ g) (z : Zr wx b A n c X k) (z2 : Zr wx b2 A2 n2 c2 Y k2) : BxNew2 v X Y k k2 (.pointer (some ⟨g, 0, none⟩)) (.pointer (some ⟨wx.heap.size, 0, none⟩)) (((wx.alloc (.cells #[.bool b2, .slice A2 n2 c2] 25)).setCell ⟨g, 0, none⟩ (.bool b)).setCell ⟨g, 1, none⟩ (.slice A n c)) :=
  ⟨g, wx.heap.size, _, _, _, _, _, _, _, _, rfl, rfl, Nat.ne_of_lt x6.lt, (x6.alloc _).put _ _ _ _, (Bx.new _ _ _ _ _).aside (Ne.symm (Nat.ne_of_lt x6.lt)), (z.keep (below_alloc _ _)).put (x6.alloc _), (z2.keep (below_alloc _ _)).put (x6.alloc _), hg, hv.size, put_below (bthen hv (below_alloc _ _)) hg _ _⟩
theorem BxNew2.gl (hv : Below v.heap.size v wx) (x7 : Bx wx h p2 B2 m2 d2) (hh : v.heap.size ≤ h) (z : Zr wx b A n c X k) (z2 : Zr wx b2 A2 n2 c2 Y k2) : BxNew2 v X Y k k2 (.pointer (some ⟨wx.heap.size, 0, none⟩)) (.pointer (some ⟨h, 0, none⟩)) (((wx.setCell ⟨h, 0, none⟩ (.bool b2)).setCell ⟨h, 1, none⟩ (.slice A2 n2 c2)).alloc (.cells #[.bool b, .slice A n c] 25)) :=
  ⟨wx.heap.size, h, _, _, _, _, _, _, _, _, rfl, rfl, Ne.symm (Nat.ne_of_lt x7.lt), Bx.at_size (put_size _ _ _ _ _ _), (x7.put _ _ _ _).alloc _, (z.put x7).keep (below_alloc _ _), (z2.put x7).keep (below_alloc _ _), hv.size, hh, bthen (put_below hv hh _ _) (below_alloc _ _)⟩
theorem BxNew2.lg (hv : Below v.heap.size v wx) (x7 : Bx wx h p2 B2 m2 d2) (hh : v.heap.size ≤ h) (z : Zr wx b A n c X k) (z2 : Zr wx b2 A2 n2 c2 Y k2) : BxNew2 v X Y k k2 (.pointer (some ⟨wx.heap.size, 0, none⟩)) (.pointer (some ⟨h, 0, none⟩)) (((wx.alloc (.cells #[.bool b, .slice A n c] 25)).setCell ⟨h, 0, none⟩ (.bool b2)).setCell ⟨h, 1, none⟩ (.slice A2 n2 c2)) :=
  ⟨wx.heap.size, h, _, _, _, _, _, _, _, _, rfl, rfl, Ne.symm (Nat.ne_of_lt x7.lt), (Bx.new _ _ _ _ _).aside (Ne.symm (Nat.ne_of_lt x7.lt)), (x7.alloc _).put _ _ _ _, (z.keep (below_alloc _ _)).put (x7.alloc _), (z2.keep (below_alloc _ _)).put (x7.alloc _), hv.size, hh, put_below (bthen hv (below_alloc _ _)) hh _ _⟩
theorem BxNew2.ll (hv : Below v.heap.size v wx) (z : Zr wx b A n c X k) (z2 : Zr wx b2 A2 n2 c2 Y k2) : BxNew2 v X Y k k2 (.pointer (some ⟨wx.heap.size, 0, none⟩)) (.pointer (some ⟨wx.heap.size + 1, 0, none⟩)) ((wx.alloc (.cells #[.bool b, .slice A n c] 25)).alloc (.cells #[.bool b2, .slice A2 n2 c2] 25)) :=
  ⟨wx.heap.size, wx.heap.size + 1, _, _, _, _, _, _, _, _, rfl, rfl, by omega, (Bx.new _ _ _ _ _).alloc _, Bx.at_size (alloc_size _ _), z.keep (below_alloc2 _ _ _), z2.keep (below_alloc2 _ _ _), hv.size, Nat.le_succ_of_le hv.size, bthen hv (below_alloc2 _ _ _)⟩
theorem BxNew2.mm (hv : Below v.heap.size v wx) (z : Zr wx b A n c X k) (z2 : Zr wx b2 A2 n2 c2 Y k2) : BxNew2 v X Y k k2 (.pointer (some ⟨wx.heap.size + 1, 0, none⟩)) (.pointer (some ⟨wx.heap.size, 0, none⟩)) ((wx.alloc (.cells #[.bool b2, .slice A2 n2 c2] 25)).alloc (.cells #[.bool b, .slice A n c] 25)) :=
  ⟨wx.heap.size + 1, wx.heap.size, _, _, _, _, _, _, _, _, rfl, rfl, by omega, Bx.at_size (alloc_size _ _), (Bx.new _ _ _ _ _).alloc _, z.keep (below_alloc2 _ _ _), z2.keep (below_alloc2 _ _ _), Nat.le_succ_of_le hv.size, hv.size, bthen hv (below_alloc2 _ _ _)⟩
end
end Go.Proofs.Ytiikmjnnlckiiaa
