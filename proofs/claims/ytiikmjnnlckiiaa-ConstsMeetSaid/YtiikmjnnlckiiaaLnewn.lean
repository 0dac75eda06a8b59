/-
  Two new variables for integers in normal form.
-/
import Derived.Test.YtiikmjnnlckiiaaLnew
namespace Go.Proofs.Ytiikmjnnlckiiaa
open Go.RowKit
set_option linter.unusedVariables false

/-- Two new boxes of integers in normal form, in a world that is otherwise as it was. -/
def BnNew2 (v : World) (X Y : Int) (k k2 : Nat) (s t : Value) (wx : World) : Prop :=
  ∃ g h A n c A2 n2 c2, s = .pointer (some ⟨g, 0, none⟩) ∧ t = .pointer (some ⟨h, 0, none⟩) ∧ g ≠ h ∧ Bx wx g (ngB X) A n c ∧ Bx wx h (ngB Y) A2 n2 c2 ∧ Zn wx A n c X k ∧ Zn wx A2 n2 c2 Y k2 ∧ v.heap.size ≤ g ∧ v.heap.size ≤ h ∧ Below v.heap.size v wx
section
variable {v wx : World} {X Y : Int} {k k2 g h n c n2 c2 m d m2 d2 : Nat} {p p2 : Bool} {A A2 B B2 : Option Addr}
theorem BnNew2.ee (hv : Below v.heap.size v wx) (x6 : Bx wx g p B m d) (hg : v.heap.size ≤ g) (x7 : Bx wx h p2 B2 m2 d2) (hh : v.heap.size ≤ h) (hne : g ≠ h) (z : Zn wx A n c X k) (z2 : Zn wx A2 n2 c2 Y k2) : BnNew2 v X Y k k2 (.pointer (some ⟨g, 0, none⟩)) (.pointer (some ⟨h, 0, none⟩)) ((((wx.setCell ⟨g, 0, none⟩ (.bool (ngB X))).setCell ⟨g, 1, none⟩ (.slice A n c)).setCell ⟨h, 0, none⟩ (.bool (ngB Y))).setCell ⟨h, 1, none⟩ (.slice A2 n2 c2)) :=
  ⟨g, h, _, _, _, _, _, _, rfl, rfl, hne, (x6.put _ _ _ _).aside hne, (x7.aside (Ne.symm hne)).put _ _ _ _, (z.put x6).put (x7.aside (Ne.symm hne)), (z2.put x6).put (x7.aside (Ne.symm hne)), hg, hh, put_below (put_below hv hg _ _) hh _ _⟩
theorem BnNew2.ff (hv : Below v.heap.size v wx) (x6 : Bx wx g p B m d) (hg : v.heap.size ≤ g) (x7 : Bx wx h p2 B2 m2 d2) (hh : v.heap.size ≤ h) (hne : g ≠ h) (z : Zn wx A n c X k) (z2 : Zn wx A2 n2 c2 Y k2) : BnNew2 v X Y k k2 (.pointer (some ⟨g, 0, none⟩)) (.pointer (some ⟨h, 0, none⟩)) ((((wx.setCell ⟨h, 0, none⟩ (.bool (ngB Y))).setCell ⟨h, 1, none⟩ (.slice A2 n2 c2)).setCell ⟨g, 0, none⟩ (.bool (ngB X))).setCell ⟨g, 1, none⟩ (.slice A n c)) :=
  ⟨g, h, _, _, _, _, _, _, rfl, rfl, hne, (x6.aside hne).put _ _ _ _, (x7.put _ _ _ _).aside (Ne.symm hne), (z.put x7).put (x6.aside hne), (z2.put x7).put (x6.aside hne), hg, hh, put_below (put_below hv hh _ _) hg _ _⟩
theorem BnNew2.el (hv : Below v.heap.size v wx) (x6 : Bx wx g p B m d) (hg : v.heap.size ≤ g) (z : Zn wx A n c X k) (z2 : Zn wx A2 n2 c2 Y k2) : BnNew2 v X Y k k2 (.pointer (some ⟨g, 0, none⟩)) (.pointer (some ⟨wx.heap.size, 0, none⟩)) (((wx.setCell ⟨g, 0, none⟩ (.bool (ngB X))).setCell ⟨g, 1, none⟩ (.slice A n c)).alloc (.cells #[.bool (ngB Y), .slice A2 n2 c2] 25)) :=
  ⟨g, wx.heap.size, _, _, _, _, _, _, rfl, rfl, Nat.ne_of_lt x6.lt, (x6.put _ _ _ _).alloc _, Bx.at_size (put_size _ _ _ _ _ _), (z.put x6).keep (below_alloc _ _), (z2.put x6).keep (below_alloc _ _), hg, hv.size, bthen (put_below hv hg _ _) (below_alloc _ _)⟩
theorem BnNew2.le (hv : Below v.heap.size v wx) (x6 : Bx wx g p B m d) (hg : v.heap.size ≤ g) (z : Zn wx A n c X k) (z2 : Zn wx A2 n2 c2 Y k2) : BnNew2 v X Y k k2 (.pointer (some ⟨g, 0, none⟩)) (.pointer (some ⟨wx.heap.size, 0, none⟩)) (((wx.alloc (.cells #[.bool (ngB Y), .slice A2 n2 c2] 25)).setCell ⟨g, 0, none⟩ (.bool (ngB X))).setCell ⟨g, 1, none⟩ (.slice A n c)) :=
  ⟨g, wx.heap.size, _, _, _, _, _, _, rfl, rfl, Nat.ne_of_lt x6.lt, (x6.alloc _).put _ _ _ _, (Bx.new _ _ _ _ _).aside (Ne.symm (Nat.ne_of_lt x6.lt)), (z.keep (below_alloc _ _)).put (x6.alloc _), (z2.keep (below_alloc _ _)).put (x6.alloc _), hg, hv.size, put_below (bthen hv (below_alloc _ _)) hg _ _⟩
theorem BnNew2.gl (hv : Below v.heap.size v wx) (x7 : Bx wx h p2 B2 m2 d2) (hh : v.heap.size ≤ h) (z : Zn wx A n c X k) (z2 : Zn wx A2 n2 c2 Y k2) : BnNew2 v X Y k k2 (.pointer (some ⟨wx.heap.size, 0, none⟩)) (.pointer (some ⟨h, 0, none⟩)) (((wx.setCell ⟨h, 0, none⟩ (.bool (ngB Y))).setCell ⟨h, 1, none⟩ (.slice A2 n2 c2)).alloc (.cells #[.bool (ngB X), .slice A n c] 25)) :=
  ⟨wx.heap.size, h, _, _, _, _, _, _, rfl, rfl, Ne.symm (Nat.ne_of_lt x7.lt), Bx.at_size (put_size _ _ _ _ _ _), (x7.put _ _ _ _).alloc _, (z.put x7).keep (below_alloc _ _), (z2.put x7).keep (below_alloc _ _), hv.size, hh, bthen (put_below hv hh _ _) (below_alloc _ _)⟩
theorem BnNew2.lg (hv : Below v.heap.size v wx) (x7 : Bx wx h p2 B2 m2 d2) (hh : v.heap.size ≤ h) (z : Zn wx A n c X k) (z2 : Zn wx A2 n2 c2 Y k2) : BnNew2 v X Y k k2 (.pointer (some ⟨wx.heap.size, 0, none⟩)) (.pointer (some ⟨h, 0, none⟩)) (((wx.alloc (.cells #[.bool (ngB X), .slice A n c] 25)).setCell ⟨h, 0, none⟩ (.bool (ngB Y))).setCell ⟨h, 1, none⟩ (.slice A2 n2 c2)) :=
  ⟨wx.heap.size, h, _, _, _, _, _, _, rfl, rfl, Ne.symm (Nat.ne_of_lt x7.lt), (Bx.new _ _ _ _ _).aside (Ne.symm (Nat.ne_of_lt x7.lt)), (x7.alloc _).put _ _ _ _, (z.keep (below_alloc _ _)).put (x7.alloc _), (z2.keep (below_alloc _ _)).put (x7.alloc _), hv.size, hh, put_below (bthen hv (below_alloc _ _)) hh _ _⟩
theorem BnNew2.ll (hv : Below v.heap.size v wx) (z : Zn wx A n c X k) (z2 : Zn wx A2 n2 c2 Y k2) : BnNew2 v X Y k k2 (.pointer (some ⟨wx.heap.size, 0, none⟩)) (.pointer (some ⟨wx.heap.size + 1, 0, none⟩)) ((wx.alloc (.cells #[.bool (ngB X), .slice A n c] 25)).alloc (.cells #[.bool (ngB Y), .slice A2 n2 c2] 25)) :=
  ⟨wx.heap.size, wx.heap.size + 1, _, _, _, _, _, _, rfl, rfl, by omega, (Bx.new _ _ _ _ _).alloc _, Bx.at_size (alloc_size _ _), z.keep (below_alloc2 _ _ _), z2.keep (below_alloc2 _ _ _), hv.size, Nat.le_succ_of_le hv.size, bthen hv (below_alloc2 _ _ _)⟩
theorem BnNew2.mm (hv : Below v.heap.size v wx) (z : Zn wx A n c X k) (z2 : Zn wx A2 n2 c2 Y k2) : BnNew2 v X Y k k2 (.pointer (some ⟨wx.heap.size + 1, 0, none⟩)) (.pointer (some ⟨wx.heap.size, 0, none⟩)) ((wx.alloc (.cells #[.bool (ngB Y), .slice A2 n2 c2] 25)).alloc (.cells #[.bool (ngB X), .slice A n c] 25)) :=
  ⟨wx.heap.size + 1, wx.heap.size, _, _, _, _, _, _, rfl, rfl, by omega, Bx.at_size (alloc_size _ _), (Bx.new _ _ _ _ _).alloc _, z.keep (below_alloc2 _ _ _), z2.keep (below_alloc2 _ _ _), Nat.le_succ_of_le hv.size, hv.size, bthen hv (below_alloc2 _ _ _)⟩
end
end Go.Proofs.Ytiikmjnnlckiiaa
