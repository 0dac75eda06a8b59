/-
  Integers as values: a sign and limbs; signed, flip, Norm.
-/
import Derived.Test.YtcoidcbbdibnaaaDoorSmall
import Derived.BigRegion
import Derived.Deep.RegionWith
import Derived.Deep.RegionHeld3
namespace Go.Proofs.YtcoidcbbdibnaaaDoor
open Go.RowKit
set_option linter.unusedVariables false

/-- The integer of a sign and a number. -/
def zi (b : Bool) (N : Nat) : Int := if b then -(N : Int) else N
/-- Is it negative? -/
def ngB (X : Int) : Bool := decide (X < 0)
theorem zi_abs (b : Bool) (N : Nat) : (zi b N).natAbs = N := by unfold zi; split <;> omega
theorem zi_false (N : Nat) : zi false N = N := rfl
theorem zi_true (N : Nat) : zi true N = -(N : Int) := rfl
theorem ngB_false (N : Nat) : ngB (zi false N) = false := by unfold ngB zi; simp
theorem ngB_true {N : Nat} (h : 0 < N) : ngB (zi true N) = true := by unfold ngB zi; simp; omega
theorem ngB_zero (b : Bool) : ngB (zi b 0) = false := by unfold ngB zi; cases b <;> simp
theorem zi_ngB (X : Int) : zi (ngB X) X.natAbs = X := by unfold zi ngB; by_cases h : X < 0 <;> simp [h] <;> omega

/-- A value that reads as the integer X, of at most k limbs, as it came in. -/
def Zr (w : World) (b : Bool) (A : Option Addr) (n c : Nat) (X : Int) (k : Nat) : Prop := ∃ l, Rd w w.heap.size A n c l ∧ zi b (vl Wd l) = X ∧ n ≤ k
/-- A value in normal form that reads as the integer X, of at most k limbs. -/
def Zn (w : World) (A : Option Addr) (n c : Nat) (X : Int) (k : Nat) : Prop := Rd w w.heap.size A n c (dg Wd X.natAbs) ∧ n ≤ k
/-- An integer of at most k limbs. -/
def Si (X : Int) (k : Nat) : Prop := Sm X.natAbs k
theorem Zn.zr {w : World} {A : Option Addr} {n c k : Nat} {X : Int} (h : Zn w A n c X k) : Zr w (ngB X) A n c X k := ⟨_, h.1, by rw [vl_dg Wd2, zi_ngB], h.2⟩
theorem Zr.keep {w w' : World} {b : Bool} {A : Option Addr} {n c k : Nat} {X : Int} (h : Zr w b A n c X k) (hb : Below w.heap.size w w') : Zr w' b A n c X k := by
  obtain ⟨l, h1, h2, h3⟩ := h; exact ⟨l, (h1.below hb).more hb.size, h2, h3⟩
theorem Zn.keep {w w' : World} {A : Option Addr} {n c k : Nat} {X : Int} (h : Zn w A n c X k) (hb : Below w.heap.size w w') : Zn w' A n c X k := ⟨(h.1.below hb).more hb.size, h.2⟩
theorem Rd.go {w w' : World} {A : Option Addr} {n c : Nat} {l : List Int} (h : Rd w w.heap.size A n c l) (hb : Below w.heap.size w w') : Rd w' w'.heap.size A n c l := (h.below hb).more hb.size
theorem Zr.si {w : World} {b : Bool} {A : Option Addr} {n c k : Nat} {X : Int} (h : Zr w b A n c X k) : Si X k := by
  obtain ⟨l, h1, rfl, h3⟩ := h
  unfold Si
  rw [zi_abs]
  exact Sm.of h1 h3
theorem Zr.le {w : World} {b : Bool} {A : Option Addr} {n c k : Nat} {X : Int} (h : Zr w b A n c X k) : n ≤ k := h.choose_spec.2.2
theorem Zr.wide {w : World} {b : Bool} {A : Option Addr} {n c k j : Nat} {X : Int} (h : Zr w b A n c X k) (hj : k ≤ j) : Zr w b A n c X j := by
  obtain ⟨l, h1, h2, h3⟩ := h; exact ⟨l, h1, h2, Nat.le_trans h3 hj⟩
theorem Zn.wide {w : World} {A : Option Addr} {n c k j : Nat} {X : Int} (h : Zn w A n c X k) (hj : k ≤ j) : Zn w A n c X j := ⟨h.1, Nat.le_trans h.2 hj⟩
theorem Zn.slim {w : World} {A : Option Addr} {n c k j : Nat} {X : Int} (h : Zn w A n c X k) (hj : Si X j) : Zn w A n c X j := ⟨h.1, h.1.small hj⟩

/-- What a function hands back: the integer X; of what was there nothing has turned. -/
def OutZ (w : World) (X : Int) (k : Nat) (e : Ending) (w' : World) : Prop := ∃ A n c, e = .returned (.agg #[.bool (ngB X), .slice A n c]) ∧ Zn w' A n c X k ∧ Below w.heap.size w w'

def SgPost (w : World) (b : Bool) (A : Option Addr) (n c N k : Nat) (e : Ending) (w' : World) : Prop := e = .returned (.agg #[.bool (ngB (zi b N)), .slice A n c]) ∧ Zn w' A n c (zi b N) k ∧ Below w.heap.size w w'
theorem SgPost.mk {w : World} {b b' : Bool} {A : Option Addr} {n c N k : Nat} {w' : World} (h : Rd w w.heap.size A n c (dg Wd N)) (hs : Sm N k) (he : b' = ngB (zi b N)) (hb : Below w.heap.size w w') : SgPost w b A n c N k (.returned (.agg #[.bool b', .slice A n c])) w' := by
  refine ⟨by rw [he], ⟨?_, h.small hs⟩, hb⟩
  rw [zi_abs]
  exact h.go hb

theorem below_alloc (w : World) (o : Obj) : Below w.heap.size w (w.alloc o) := (Below.refl _ _).alloc (Nat.le_refl _) _
theorem below_alloc2 (w : World) (o p : Obj) : Below w.heap.size w ((w.alloc o).alloc p) := (below_alloc w o).alloc (by simp) _
theorem below_alloc3 (w : World) (o p q : Obj) : Below w.heap.size w (((w.alloc o).alloc p).alloc q) := (below_alloc2 w o p).alloc (by simp; omega) _

set_option maxHeartbeats 400000 in
theorem signed_any (b : Bool) (A : Option Addr) (n c N : Nat) (w : World) (k : Nat) (h : Rd w w.heap.size A n c (dg Wd N)) (hs : Sm N k) :
    Calls Tryd.prog 66 #[.bool b, .slice A n c] w (SgPost w b A n c N k) := by
  have H := Lib.hid h.len
  cases b
  · go_enter Tryd.func66, Tryd.ntmps66
    go_wp2
    exact bodyPost_ret (v := .agg #[.bool false, .slice A n c]) (by simp [results, Tryd.results66, go_sem]) rfl (SgPost.mk h hs (ngB_false _).symm (below_alloc _ _))
  · rcases Nat.eq_zero_or_pos n with h0 | h0
    · subst h0
      have hN : N = 0 := (dg_eq_nil Wd2).1 (List.eq_nil_of_length_eq_zero H.out)
      subst hN
      go_enter Tryd.func66, Tryd.ntmps66
      go_wp2
      exact bodyPost_ret (v := .agg #[.bool false, .slice A 0 c]) (by simp [results, Tryd.results66, go_sem]) rfl (SgPost.mk h hs (ngB_zero _).symm (below_alloc _ _))
    · have hN : 0 < N := by
        rcases Nat.eq_zero_or_pos N with h1 | h1
        · subst h1; have := H.out; rw [dg_zero] at this; simp at this; omega
        · exact h1
      go_enter Tryd.func66, Tryd.ntmps66
      go_wp2
      exact bodyPost_ret (v := .agg #[.bool true, .slice A n c]) (by simp [results, Tryd.results66, go_sem]) rfl (SgPost.mk h hs (ngB_true hN).symm (below_alloc _ _))

set_option maxHeartbeats 400000 in
theorem flip_any (b : Bool) (A : Option Addr) (n c : Nat) (w : World) :
    Calls Tryd.prog 68 #[.agg #[.bool b, .slice A n c]] w fun e w' => e = .returned (.agg #[.bool (!b), .slice A n c]) ∧ Below w.heap.size w w' := by
  go_enter Tryd.func68, Tryd.ntmps68
  go_wp2
  exact bodyPost_ret (v := .agg #[.bool (!b), .slice A n c]) (by simp [results, Tryd.results68, go_sem]) rfl ⟨rfl, below_alloc2 _ _ _⟩

theorem below_drew {B : Nat} {a b : World} (h : Below B a b) : Below B a b.drew := ⟨h.os, h.tape, h.output, h.size, h.block⟩
theorem Rd.drew {w : World} {B n c : Nat} {A : Option Addr} {l : List Int} (h : Rd w B A n c l) : Rd w.drew B A n c l := h
/-- Block g holds an integer: its sign and its limbs' slice. -/
def Bx (w : World) (g : Nat) (b : Bool) (A : Option Addr) (n c : Nat) : Prop := w.heap[g]? = some (.cells #[.bool b, .slice A n c] 24 (0, 0))
section
variable {w w' : World} {g n c B n' c' : Nat} {b : Bool} {A A' : Option Addr} {l : List Int}
theorem Bx.lt (h : Bx w g b A n c) : g < w.heap.size := by
  rcases Nat.lt_or_ge g w.heap.size with hlt | hge
  · exact hlt
  · unfold Bx at h; rw [Array.getElem?_eq_none hge] at h; cases h
theorem Bx.c0 (h : Bx w g b A n c) : w.cell? ⟨g, 0, none⟩ = some (.bool b) := by
  rw [cell_of_row w g 0 _ _ (0, 0) h]; rfl
theorem Bx.c1 (h : Bx w g b A n c) : w.cell? ⟨g, 1, none⟩ = some (.slice A n c) := by
  rw [cell_of_row w g 1 _ _ (0, 0) h]; rfl
theorem Bx.fr (h : Bx w g b A n c) (i : Nat) : w.frozen? ⟨g, i, none⟩ = false := by
  unfold Bx at h
  simp [World.frozen?, h]
theorem Bx.new (w : World) (b : Bool) (A : Option Addr) (n c : Nat) : Bx (w.alloc (.cells #[.bool b, .slice A n c] 24)) w.heap.size b A n c := heap_alloc_new w _
theorem Bx.alloc (h : Bx w g b A n c) (o : Obj) : Bx (w.alloc o) g b A n c := (Below.heap_alloc w o g h.lt).trans h
theorem Bx.drew (h : Bx w g b A n c) : Bx w.drew g b A n c := h
theorem Bx.below {B : Nat} (h : Bx w g b A n c) (hb : Below B w w') (hg : g < B) : Bx w' g b A n c := (hb.block g hg).trans h
theorem Bx.keep (h : Bx w g b A n c) (hb : Below w.heap.size w w') : Bx w' g b A n c := h.below hb h.lt
theorem Bx.far (h : Bx w g b A n c) {p : Addr} (hp : g ≠ p.block) (u : Value) : Bx (w.setCell p u) g b A n c := (Below.heap_setCell w p u g hp).trans h
theorem Bx.put (h : Bx w g b A n c) (b' : Bool) (A' : Option Addr) (n' c' : Nat) : Bx ((w.setCell ⟨g, 0, none⟩ (.bool b')).setCell ⟨g, 1, none⟩ (.slice A' n' c')) g b' A' n' c' := by
  unfold Bx at h ⊢
  simp [World.setCell, Array.getElem?_modify, h]
theorem Rd.put (hr : Rd w B A' n' c' l) (h : Bx w g b A n c) (b' : Bool) (A2 : Option Addr) (n2 c2 : Nat) : Rd ((w.setCell ⟨g, 0, none⟩ (.bool b')).setCell ⟨g, 1, none⟩ (.slice A2 n2 c2)) B A' n' c' l := by
  have h0 := h.c0
  have h1 := h.c1
  refine ⟨hr.1, hr.2.1, hr.2.2.1, hr.2.2.2.1, fun hn => ?_⟩
  obtain ⟨d, off, e, hd, hc⟩ := hr.at_ hn
  refine ⟨d, off, e, hd, fun k hk => ?_⟩
  have hck := hc k hk
  have e0 : (⟨d, off + k, none⟩ : Addr) ≠ ⟨g, 0, none⟩ := fun e => by rw [e, h0] at hck; cases hck
  have e1 : (⟨d, off + k, none⟩ : Addr) ≠ ⟨g, 1, none⟩ := fun e => by rw [e, h1] at hck; cases hck
  rw [World.cell?_setCell_other _ _ _ _ e1.symm, World.cell?_setCell_other _ _ _ _ e0.symm]
  exact hck
theorem put_below {B : Nat} {w0 : World} (hb : Below B w0 w) (hg : B ≤ g) (u u' : Value) : Below B w0 ((w.setCell ⟨g, 0, none⟩ u).setCell ⟨g, 1, none⟩ u') := (hb.setCell hg _).setCell hg _
end
theorem Zr.put {w : World} {b b2 b' : Bool} {A A2 A' : Option Addr} {n c n2 c2 n' c' k g : Nat} {X : Int} (h : Zr w b A n c X k) (x : Bx w g b2 A2 n2 c2) : Zr ((w.setCell ⟨g, 0, none⟩ (.bool b')).setCell ⟨g, 1, none⟩ (.slice A' n' c')) b A n c X k := by
  obtain ⟨l, h1, h2, h3⟩ := h
  exact ⟨l, (h1.put x _ _ _ _).more (by simp [World.setCell]), h2, h3⟩
theorem Zn.put {w : World} {b2 b' : Bool} {A A2 A' : Option Addr} {n c n2 c2 n' c' k g : Nat} {X : Int} (h : Zn w A n c X k) (x : Bx w g b2 A2 n2 c2) : Zn ((w.setCell ⟨g, 0, none⟩ (.bool b')).setCell ⟨g, 1, none⟩ (.slice A' n' c')) A n c X k :=
  ⟨(h.1.put x _ _ _ _).more (by simp [World.setCell]), h.2⟩
theorem Rd.sput {w : World} {b2 b' : Bool} {A A2 A' : Option Addr} {n c n2 c2 n' c' g : Nat} {l : List Int} (h : Rd w w.heap.size A n c l) (x : Bx w g b2 A2 n2 c2) : Rd ((w.setCell ⟨g, 0, none⟩ (.bool b')).setCell ⟨g, 1, none⟩ (.slice A' n' c')) ((w.setCell ⟨g, 0, none⟩ (.bool b')).setCell ⟨g, 1, none⟩ (.slice A' n' c')).heap.size A n c l :=
  (h.put x _ _ _ _).more (by simp [World.setCell])
theorem Bx.aside {w : World} {b b' : Bool} {A A' : Option Addr} {n c n' c' g h : Nat} (x : Bx w h b A n c) (hg : h ≠ g) : Bx ((w.setCell ⟨g, 0, none⟩ (.bool b')).setCell ⟨g, 1, none⟩ (.slice A' n' c')) h b A n c := (x.far hg _).far hg _
theorem bthen {a b c : World} (h : Below a.heap.size a b) (k : Below b.heap.size b c) : Below a.heap.size a c := h.trans (k.mono h.size)
/-- Boxes, just laid. -/
theorem box2 (w : World) (b : Bool) (A : Option Addr) (n c : Nat) (b2 : Bool) (A2 : Option Addr) (n2 c2 : Nat) :
    Below w.heap.size w ((w.alloc (.cells #[.bool b, .slice A n c] 24)).alloc (.cells #[.bool b2, .slice A2 n2 c2] 24)) ∧
    Bx ((w.alloc (.cells #[.bool b, .slice A n c] 24)).alloc (.cells #[.bool b2, .slice A2 n2 c2] 24)) w.heap.size b A n c ∧
    Bx ((w.alloc (.cells #[.bool b, .slice A n c] 24)).alloc (.cells #[.bool b2, .slice A2 n2 c2] 24)) (w.heap.size + 1) b2 A2 n2 c2 :=
  ⟨below_alloc2 _ _ _, (Bx.new _ _ _ _ _).alloc _, by have := Bx.new (w.alloc (.cells #[.bool b, .slice A n c] 24)) b2 A2 n2 c2; simpa using this⟩
theorem box1 (w : World) (b : Bool) (A : Option Addr) (n c : Nat) :
    Below w.heap.size w (w.alloc (.cells #[.bool b, .slice A n c] 24)) ∧ Bx (w.alloc (.cells #[.bool b, .slice A n c] 24)) w.heap.size b A n c :=
  ⟨below_alloc _ _, Bx.new _ _ _ _ _⟩
theorem box3 (w : World) (b : Bool) (A : Option Addr) (n c : Nat) (b2 : Bool) (A2 : Option Addr) (n2 c2 : Nat) (b3 : Bool) (A3 : Option Addr) (n3 c3 : Nat) :
    Below w.heap.size w (((w.alloc (.cells #[.bool b, .slice A n c] 24)).alloc (.cells #[.bool b2, .slice A2 n2 c2] 24)).alloc (.cells #[.bool b3, .slice A3 n3 c3] 24)) ∧
    Bx (((w.alloc (.cells #[.bool b, .slice A n c] 24)).alloc (.cells #[.bool b2, .slice A2 n2 c2] 24)).alloc (.cells #[.bool b3, .slice A3 n3 c3] 24)) w.heap.size b A n c ∧
    Bx (((w.alloc (.cells #[.bool b, .slice A n c] 24)).alloc (.cells #[.bool b2, .slice A2 n2 c2] 24)).alloc (.cells #[.bool b3, .slice A3 n3 c3] 24)) (w.heap.size + 1) b2 A2 n2 c2 ∧
    Bx (((w.alloc (.cells #[.bool b, .slice A n c] 24)).alloc (.cells #[.bool b2, .slice A2 n2 c2] 24)).alloc (.cells #[.bool b3, .slice A3 n3 c3] 24)) (w.heap.size + 1 + 1) b3 A3 n3 c3 := by
  obtain ⟨h1, h2, h3⟩ := box2 w b A n c b2 A2 n2 c2
  refine ⟨below_alloc3 _ _ _ _, h2.alloc _, h3.alloc _, ?_⟩
  have := Bx.new ((w.alloc (.cells #[.bool b, .slice A n c] 24)).alloc (.cells #[.bool b2, .slice A2 n2 c2] 24)) b3 A3 n3 c3
  simpa using this
theorem box4 (w : World) (b : Bool) (A : Option Addr) (n c : Nat) (b2 : Bool) (A2 : Option Addr) (n2 c2 : Nat) (b3 : Bool) (A3 : Option Addr) (n3 c3 : Nat) (b4 : Bool) (A4 : Option Addr) (n4 c4 : Nat) :
    Below w.heap.size w ((((w.alloc (.cells #[.bool b, .slice A n c] 24)).alloc (.cells #[.bool b2, .slice A2 n2 c2] 24)).alloc (.cells #[.bool b3, .slice A3 n3 c3] 24)).alloc (.cells #[.bool b4, .slice A4 n4 c4] 24)) ∧
    Bx ((((w.alloc (.cells #[.bool b, .slice A n c] 24)).alloc (.cells #[.bool b2, .slice A2 n2 c2] 24)).alloc (.cells #[.bool b3, .slice A3 n3 c3] 24)).alloc (.cells #[.bool b4, .slice A4 n4 c4] 24)) w.heap.size b A n c ∧
    Bx ((((w.alloc (.cells #[.bool b, .slice A n c] 24)).alloc (.cells #[.bool b2, .slice A2 n2 c2] 24)).alloc (.cells #[.bool b3, .slice A3 n3 c3] 24)).alloc (.cells #[.bool b4, .slice A4 n4 c4] 24)) (w.heap.size + 1) b2 A2 n2 c2 ∧
    Bx ((((w.alloc (.cells #[.bool b, .slice A n c] 24)).alloc (.cells #[.bool b2, .slice A2 n2 c2] 24)).alloc (.cells #[.bool b3, .slice A3 n3 c3] 24)).alloc (.cells #[.bool b4, .slice A4 n4 c4] 24)) (w.heap.size + 1 + 1) b3 A3 n3 c3 ∧
    Bx ((((w.alloc (.cells #[.bool b, .slice A n c] 24)).alloc (.cells #[.bool b2, .slice A2 n2 c2] 24)).alloc (.cells #[.bool b3, .slice A3 n3 c3] 24)).alloc (.cells #[.bool b4, .slice A4 n4 c4] 24)) (w.heap.size + 1 + 1 + 1) b4 A4 n4 c4 := by
  obtain ⟨h1, h2, h3, h4⟩ := box3 w b A n c b2 A2 n2 c2 b3 A3 n3 c3
  refine ⟨h1.alloc (by simp; omega) _, h2.alloc _, h3.alloc _, h4.alloc _, ?_⟩
  have := Bx.new (((w.alloc (.cells #[.bool b, .slice A n c] 24)).alloc (.cells #[.bool b2, .slice A2 n2 c2] 24)).alloc (.cells #[.bool b3, .slice A3 n3 c3] 24)) b4 A4 n4 c4
  simpa using this
end Go.Proofs.YtcoidcbbdibnaaaDoor
