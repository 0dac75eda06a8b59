/-
 Two new variables for integers in normal form.
-/
import Derived.Test.YtdonaominffpnaaGreatDoorEbox
import Derived.Deep.DeepCutAuto
namespace Go.Proofs.YtdonaominffpnaaGreatDoor
set_option linter.unusedVariables false
open Go.RowKit
theorem Bx.at_size {w : World} {N : Nat} {b : Bool} {A : Option Addr} {n c : Nat} (h : w.heap.size = N) : Bx (w.alloc (.cells #[.bool b, .slice A n c] 24)) N b A n c := by subst h; exact Bx.new w b A n c
theorem put_size (w : World) (g : Nat) (b : Bool) (A : Option Addr) (n c : Nat) : ((w.setCell ⟨g, 0, none⟩ (.bool b)).setCell ⟨g, 1, none⟩ (.slice A n c)).heap.size = w.heap.size := by simp [World.setCell]
theorem alloc_size (w : World) (o : Obj) : (w.alloc o).heap.size = w.heap.size + 1 := by simp
section
variable {v wx : World} {X Y : Int} {k k2 g h n c n2 c2 m d m2 d2 : Nat} {b b2 p p2 : Bool} {A A2 B B2 : Option Addr}
end
end Go.Proofs.YtdonaominffpnaaGreatDoor
namespace Go.Proofs.YtdonaominffpnaaGreatDoor
set_option linter.unusedVariables false
open Go.RowKit
def BnNew2 (v : World) (X Y : Int) (k k2 : Nat) (s t : Value) (wx : World) : Prop :=
 ∃ g h A n c A2 n2 c2, s = .pointer (some ⟨g, 0, none⟩) ∧ t = .pointer (some ⟨h, 0, none⟩) ∧ g ≠ h ∧ Bx wx g (ngB X) A n c ∧ Bx wx h (ngB Y) A2 n2 c2 ∧ Zn wx A n c X k ∧ Zn wx A2 n2 c2 Y k2 ∧ v.heap.size ≤ g ∧ v.heap.size ≤ h ∧ Below v.heap.size v wx
section
variable {v wx : World} {X Y : Int} {k k2 g h n c n2 c2 m d m2 d2 : Nat} {p p2 : Bool} {A A2 B B2 : Option Addr}
theorem BnNew2.ee (hv : Below v.heap.size v wx) (x6 : Bx wx g p B m d) (hg : v.heap.size ≤ g) (x7 : Bx wx h p2 B2 m2 d2) (hh : v.heap.size ≤ h) (hne : g ≠ h) (z : Zn wx A n c X k) (z2 : Zn wx A2 n2 c2 Y k2) : BnNew2 v X Y k k2 (.pointer (some ⟨g, 0, none⟩)) (.pointer (some ⟨h, 0, none⟩)) ((((wx.setCell ⟨g, 0, none⟩ (.bool (ngB X))).setCell ⟨g, 1, none⟩ (.slice A n c)).setCell ⟨h, 0, none⟩ (.bool (ngB Y))).setCell ⟨h, 1, none⟩ (.slice A2 n2 c2)) :=
 ⟨g, h, _, _, _, _, _, _, rfl, rfl, hne, (x6.put _ _ _ _).aside hne, (x7.aside (Ne.symm hne)).put _ _ _ _, (z.put x6).put (x7.aside (Ne.symm hne)), (z2.put x6).put (x7.aside (Ne.symm hne)), hg, hh, put_below (put_below hv hg _ _) hh _ _⟩
theorem BnNew2.el (hv : Below v.heap.size v wx) (x6 : Bx wx g p B m d) (hg : v.heap.size ≤ g) (z : Zn wx A n c X k) (z2 : Zn wx A2 n2 c2 Y k2) : BnNew2 v X Y k k2 (.pointer (some ⟨g, 0, none⟩)) (.pointer (some ⟨wx.heap.size, 0, none⟩)) (((wx.setCell ⟨g, 0, none⟩ (.bool (ngB X))).setCell ⟨g, 1, none⟩ (.slice A n c)).alloc (.cells #[.bool (ngB Y), .slice A2 n2 c2] 24)) :=
 ⟨g, wx.heap.size, _, _, _, _, _, _, rfl, rfl, Nat.ne_of_lt x6.lt, (x6.put _ _ _ _).alloc _, Bx.at_size (put_size _ _ _ _ _ _), (z.put x6).keep (below_alloc _ _), (z2.put x6).keep (below_alloc _ _), hg, hv.size, bthen (put_below hv hg _ _) (below_alloc _ _)⟩
theorem BnNew2.gl (hv : Below v.heap.size v wx) (x7 : Bx wx h p2 B2 m2 d2) (hh : v.heap.size ≤ h) (z : Zn wx A n c X k) (z2 : Zn wx A2 n2 c2 Y k2) : BnNew2 v X Y k k2 (.pointer (some ⟨wx.heap.size, 0, none⟩)) (.pointer (some ⟨h, 0, none⟩)) (((wx.setCell ⟨h, 0, none⟩ (.bool (ngB Y))).setCell ⟨h, 1, none⟩ (.slice A2 n2 c2)).alloc (.cells #[.bool (ngB X), .slice A n c] 24)) :=
 ⟨wx.heap.size, h, _, _, _, _, _, _, rfl, rfl, Ne.symm (Nat.ne_of_lt x7.lt), Bx.at_size (put_size _ _ _ _ _ _), (x7.put _ _ _ _).alloc _, (z.put x7).keep (below_alloc _ _), (z2.put x7).keep (below_alloc _ _), hv.size, hh, bthen (put_below hv hh _ _) (below_alloc _ _)⟩
theorem BnNew2.ll (hv : Below v.heap.size v wx) (z : Zn wx A n c X k) (z2 : Zn wx A2 n2 c2 Y k2) : BnNew2 v X Y k k2 (.pointer (some ⟨wx.heap.size, 0, none⟩)) (.pointer (some ⟨wx.heap.size + 1, 0, none⟩)) ((wx.alloc (.cells #[.bool (ngB X), .slice A n c] 24)).alloc (.cells #[.bool (ngB Y), .slice A2 n2 c2] 24)) :=
 ⟨wx.heap.size, wx.heap.size + 1, _, _, _, _, _, _, rfl, rfl, by omega, (Bx.new _ _ _ _ _).alloc _, Bx.at_size (alloc_size _ _), z.keep (below_alloc2 _ _ _), z2.keep (below_alloc2 _ _ _), hv.size, Nat.le_succ_of_le hv.size, bthen hv (below_alloc2 _ _ _)⟩
theorem BnNew2.mm (hv : Below v.heap.size v wx) (z : Zn wx A n c X k) (z2 : Zn wx A2 n2 c2 Y k2) : BnNew2 v X Y k k2 (.pointer (some ⟨wx.heap.size + 1, 0, none⟩)) (.pointer (some ⟨wx.heap.size, 0, none⟩)) ((wx.alloc (.cells #[.bool (ngB Y), .slice A2 n2 c2] 24)).alloc (.cells #[.bool (ngB X), .slice A n c] 24)) :=
 ⟨wx.heap.size + 1, wx.heap.size, _, _, _, _, _, _, rfl, rfl, by omega, Bx.at_size (alloc_size _ _), (Bx.new _ _ _ _ _).alloc _, z.keep (below_alloc2 _ _ _), z2.keep (below_alloc2 _ _ _), Nat.le_succ_of_le hv.size, hv.size, bthen hv (below_alloc2 _ _ _)⟩
end
end Go.Proofs.YtdonaominffpnaaGreatDoor
