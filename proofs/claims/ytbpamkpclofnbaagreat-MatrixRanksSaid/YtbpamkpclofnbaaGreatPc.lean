/-
  zed: Small.
-/
import Derived.Test.YtbpamkpclofnbaaGreatPb
import Derived.BigRegion
import Derived.Deep.RegionWith
import Derived.Deep.RegionHeld3
namespace Go.Proofs.YtbpamkpclofnbaaGreat
section
set_option maxRecDepth 100000
open Go.RowKit
set_option linter.unusedVariables false

/-- The integer of a sign and a number. -/
def zi (b : Bool) (N : Nat) : Int := if b then -(N : Int) else N
/-- Is it negative? -/
def ngB (X : Int) : Bool := decide (X < 0)
theorem zi_abs (b : Bool) (N : Nat) : (zi b N).natAbs = N := by unfold zi; split <;> omega
theorem zi_false (N : Nat) : zi false N = N := rfl
theorem zi_true (N : Nat) : zi true N = -(N : Int) := rfl
theorem ngB_false (N : Nat) : ngB (zi false N) = false := by unfold ngB zi; simp
theorem ngB_true {N : Nat} (h : 0 < N) : ngB (zi true N) = true := by unfold ngB zi; simp; omega
theorem ngB_zero (b : Bool) : ngB (zi b 0) = false := by unfold ngB zi; cases b <;> simp
theorem zi_ngB (X : Int) : zi (ngB X) X.natAbs = X := by unfold zi ngB; by_cases h : X < 0 <;> simp [h] <;> omega

/-- A value that reads as the integer X, of at most k limbs, as it came in. -/
def Zr (w : World) (b : Bool) (A : Option Addr) (n c : Nat) (X : Int) (k : Nat) : Prop := ∃ l, Rd w w.heap.size A n c l ∧ zi b (vl Wd l) = X ∧ n ≤ k
/-- A value in normal form that reads as the integer X, of at most k limbs. -/
def Zn (w : World) (A : Option Addr) (n c : Nat) (X : Int) (k : Nat) : Prop := Rd w w.heap.size A n c (dg Wd X.natAbs) ∧ n ≤ k
/-- An integer of at most k limbs. -/
def Si (X : Int) (k : Nat) : Prop := Sm X.natAbs k
theorem Zn.zr {w : World} {A : Option Addr} {n c k : Nat} {X : Int} (h : Zn w A n c X k) : Zr w (ngB X) A n c X k := ⟨_, h.1, by rw [vl_dg Wd2, zi_ngB], h.2⟩
theorem Zr.keep {w w' : World} {b : Bool} {A : Option Addr} {n c k : Nat} {X : Int} (h : Zr w b A n c X k) (hb : Below w.heap.size w w') : Zr w' b A n c X k := by
  obtain ⟨l, h1, h2, h3⟩ := h; exact ⟨l, (h1.below hb).more hb.size, h2, h3⟩
instance Zr.mv {b : Bool} {A : Option Addr} {n c k : Nat} {X : Int} {v w : World} : Mv (Zr v b A n c X k) v w (Zr w b A n c X k) := ⟨fun h hb => Zr.keep h hb⟩
theorem Zn.keep {w w' : World} {A : Option Addr} {n c k : Nat} {X : Int} (h : Zn w A n c X k) (hb : Below w.heap.size w w') : Zn w' A n c X k := ⟨(h.1.below hb).more hb.size, h.2⟩
instance Zn.mv {A : Option Addr} {n c k : Nat} {X : Int} {v w : World} : Mv (Zn v A n c X k) v w (Zn w A n c X k) := ⟨fun h hb => Zn.keep h hb⟩
theorem Rd.go {w w' : World} {A : Option Addr} {n c : Nat} {l : List Int} (h : Rd w w.heap.size A n c l) (hb : Below w.heap.size w w') : Rd w' w'.heap.size A n c l := (h.below hb).more hb.size
theorem Zr.si {w : World} {b : Bool} {A : Option Addr} {n c k : Nat} {X : Int} (h : Zr w b A n c X k) : Si X k := by
  obtain ⟨l, h1, rfl, h3⟩ := h
  unfold Si
  rw [zi_abs]
  exact Sm.of h1 h3
theorem Zr.le {w : World} {b : Bool} {A : Option Addr} {n c k : Nat} {X : Int} (h : Zr w b A n c X k) : n ≤ k := h.choose_spec.2.2
theorem Zr.wide {w : World} {b : Bool} {A : Option Addr} {n c k j : Nat} {X : Int} (h : Zr w b A n c X k) (hj : k ≤ j) : Zr w b A n c X j := by
  obtain ⟨l, h1, h2, h3⟩ := h; exact ⟨l, h1, h2, Nat.le_trans h3 hj⟩
theorem Zn.wide {w : World} {A : Option Addr} {n c k j : Nat} {X : Int} (h : Zn w A n c X k) (hj : k ≤ j) : Zn w A n c X j := ⟨h.1, Nat.le_trans h.2 hj⟩
theorem Zn.slim {w : World} {A : Option Addr} {n c k j : Nat} {X : Int} (h : Zn w A n c X k) (hj : Si X j) : Zn w A n c X j := ⟨h.1, h.1.small hj⟩

/-- What a function hands back: the integer X; of what was there nothing has turned. -/
def OutZ (w : World) (X : Int) (k : Nat) (e : Ending) (w' : World) : Prop := ∃ A n c, e = .returned (.agg #[.bool (ngB X), .slice A n c]) ∧ Zn w' A n c X k ∧ Below w.heap.size w w'

def SgPost (w : World) (b : Bool) (A : Option Addr) (n c N k : Nat) (e : Ending) (w' : World) : Prop := e = .returned (.agg #[.bool (ngB (zi b N)), .slice A n c]) ∧ Zn w' A n c (zi b N) k ∧ Below w.heap.size w w'
theorem SgPost.mk {w : World} {b b' : Bool} {A : Option Addr} {n c N k : Nat} {w' : World} (h : Rd w w.heap.size A n c (dg Wd N)) (hs : Sm N k) (he : b' = ngB (zi b N)) (hb : Below w.heap.size w w') : SgPost w b A n c N k (.returned (.agg #[.bool b', .slice A n c])) w' := by
  refine ⟨by rw [he], ⟨?_, h.small hs⟩, hb⟩
  rw [zi_abs]
  exact h.go hb

theorem below_alloc (w : World) (o : Obj) : Below w.heap.size w (w.alloc o) := (Below.refl _ _).alloc (Nat.le_refl _) _
theorem below_alloc2 (w : World) (o p : Obj) : Below w.heap.size w ((w.alloc o).alloc p) := (below_alloc w o).alloc (by simp) _
theorem below_alloc3 (w : World) (o p q : Obj) : Below w.heap.size w (((w.alloc o).alloc p).alloc q) := (below_alloc2 w o p).alloc (by simp; omega) _

set_option maxHeartbeats 400000 in
theorem signed_any (b : Bool) (A : Option Addr) (n c N : Nat) (w : World) (k : Nat) (h : Rd w w.heap.size A n c (dg Wd N)) (hs : Sm N k) :
    Calls Tryz.prog 118 #[.bool b, .slice A n c] w (SgPost w b A n c N k) := by
  have H := Lib.hid h.len
  cases b
  · go_enter Tryz.func118, Tryz.ntmps118
    go_wp2
    exact bodyPost_ret (v := .agg #[.bool false, .slice A n c]) (by simp [results, Tryz.results118, go_sem]) rfl (SgPost.mk h hs (ngB_false _).symm (below_alloc _ _))
  · rcases Nat.eq_zero_or_pos n with h0 | h0
    · subst h0
      have hN : N = 0 := (dg_eq_nil Wd2).1 (List.eq_nil_of_length_eq_zero H.out)
      subst hN
      go_enter Tryz.func118, Tryz.ntmps118
      go_wp2
      exact bodyPost_ret (v := .agg #[.bool false, .slice A 0 c]) (by simp [results, Tryz.results118, go_sem]) rfl (SgPost.mk h hs (ngB_zero _).symm (below_alloc _ _))
    · have hN : 0 < N := by
        rcases Nat.eq_zero_or_pos N with h1 | h1
        · subst h1; have := H.out; rw [dg_zero] at this; simp at this; omega
        · exact h1
      go_enter Tryz.func118, Tryz.ntmps118
      go_wp2
      exact bodyPost_ret (v := .agg #[.bool true, .slice A n c]) (by simp [results, Tryz.results118, go_sem]) rfl (SgPost.mk h hs (ngB_true hN).symm (below_alloc _ _))

set_option maxHeartbeats 400000 in
theorem flip_any (b : Bool) (A : Option Addr) (n c : Nat) (w : World) :
    Calls Tryz.prog 123 #[.agg #[.bool b, .slice A n c]] w fun e w' => e = .returned (.agg #[.bool (!b), .slice A n c]) ∧ Below w.heap.size w w' := by
  go_enter Tryz.func123, Tryz.ntmps123
  go_wp2
  exact bodyPost_ret (v := .agg #[.bool (!b), .slice A n c]) (by simp [results, Tryz.results123, go_sem]) rfl ⟨rfl, below_alloc2 _ _ _⟩

theorem below_drew {B : Nat} {a b : World} (h : Below B a b) : Below B a b.drew := ⟨h.os, h.tape, h.output, h.size, h.block⟩
theorem Rd.drew {w : World} {B n c : Nat} {A : Option Addr} {l : List Int} (h : Rd w B A n c l) : Rd w.drew B A n c l := h
/-- Block g holds an integer: its sign and its limbs' slice. -/
def Bx (w : World) (g : Nat) (b : Bool) (A : Option Addr) (n c : Nat) : Prop := w.heap[g]? = some (.cells #[.bool b, .slice A n c] 30 (0, 0))
section
variable {w w' : World} {g n c B n' c' : Nat} {b : Bool} {A A' : Option Addr} {l : List Int}
theorem Bx.lt (h : Bx w g b A n c) : g < w.heap.size := by
  rcases Nat.lt_or_ge g w.heap.size with hlt | hge
  · exact hlt
  · unfold Bx at h; rw [Array.getElem?_eq_none hge] at h; cases h
theorem Bx.c0 (h : Bx w g b A n c) : w.cell? ⟨g, 0, none⟩ = some (.bool b) := by
  rw [cell_of_row w g 0 _ _ (0, 0) h]; rfl
theorem Bx.c1 (h : Bx w g b A n c) : w.cell? ⟨g, 1, none⟩ = some (.slice A n c) := by
  rw [cell_of_row w g 1 _ _ (0, 0) h]; rfl
theorem Bx.fr (h : Bx w g b A n c) (i : Nat) : w.frozen? ⟨g, i, none⟩ = false := by
  unfold Bx at h
  simp [World.frozen?, h]
theorem Bx.al {w : World} {g : Nat} {b : Bool} {A : Option Addr} {n : Nat} {c : Nat} (h : Bx w g b A n c) : w.cell? ⟨g, 0, none⟩ = some (.bool b) ∧ w.frozen? ⟨g, 0, none⟩ = false ∧ w.cell? ⟨g, 1, none⟩ = some (.slice A n c) ∧ w.frozen? ⟨g, 1, none⟩ = false := ⟨h.c0, h.fr 0, h.c1, h.fr 1⟩
theorem Bx.new (w : World) (b : Bool) (A : Option Addr) (n c : Nat) : Bx (w.alloc (.cells #[.bool b, .slice A n c] 30)) w.heap.size b A n c := heap_alloc_new w _
theorem Bx.alloc (h : Bx w g b A n c) (o : Obj) : Bx (w.alloc o) g b A n c := (Below.heap_alloc w o g h.lt).trans h
theorem Bx.drew (h : Bx w g b A n c) : Bx w.drew g b A n c := h
theorem Bx.below {B : Nat} (h : Bx w g b A n c) (hb : Below B w w') (hg : g < B) : Bx w' g b A n c := (hb.block g hg).trans h
theorem Bx.keep (h : Bx w g b A n c) (hb : Below w.heap.size w w') : Bx w' g b A n c := h.below hb h.lt
instance Bx.mv {v w : World} : Mv (Bx v g b A n c) v w (Bx w g b A n c) := ⟨fun h hb => Bx.keep h hb⟩
theorem Bx.far (h : Bx w g b A n c) {p : Addr} (hp : g ≠ p.block) (u : Value) : Bx (w.setCell p u) g b A n c := (Below.heap_setCell w p u g hp).trans h
theorem Bx.put (h : Bx w g b A n c) (b' : Bool) (A' : Option Addr) (n' c' : Nat) : Bx ((w.setCell ⟨g, 0, none⟩ (.bool b')).setCell ⟨g, 1, none⟩ (.slice A' n' c')) g b' A' n' c' := by
  unfold Bx at h ⊢
  simp [World.setCell, Array.getElem?_modify, h]
theorem Rd.put (hr : Rd w B A' n' c' l) (h : Bx w g b A n c) (b' : Bool) (A2 : Option Addr) (n2 c2 : Nat) : Rd ((w.setCell ⟨g, 0, none⟩ (.bool b')).setCell ⟨g, 1, none⟩ (.slice A2 n2 c2)) B A' n' c' l := by
  have h0 := h.c0
  have h1 := h.c1
  refine ⟨hr.1, hr.2.1, hr.2.2.1, hr.2.2.2.1, fun hn => ?_⟩
  obtain ⟨d, off, e, hd, hc⟩ := hr.at_ hn
  refine ⟨d, off, e, hd, fun k hk => ?_⟩
  have hck := hc k hk
  have e0 : (⟨d, off + k, none⟩ : Addr) ≠ ⟨g, 0, none⟩ := fun e => by rw [e, h0] at hck; cases hck
  have e1 : (⟨d, off + k, none⟩ : Addr) ≠ ⟨g, 1, none⟩ := fun e => by rw [e, h1] at hck; cases hck
  rw [World.cell?_setCell_other _ _ _ _ e1.symm, World.cell?_setCell_other _ _ _ _ e0.symm]
  exact hck
theorem put_below {B : Nat} {w0 : World} (hb : Below B w0 w) (hg : B ≤ g) (u u' : Value) : Below B w0 ((w.setCell ⟨g, 0, none⟩ u).setCell ⟨g, 1, none⟩ u') := (hb.setCell hg _).setCell hg _
end
theorem Zr.put {w : World} {b b2 b' : Bool} {A A2 A' : Option Addr} {n c n2 c2 n' c' k g : Nat} {X : Int} (h : Zr w b A n c X k) (x : Bx w g b2 A2 n2 c2) : Zr ((w.setCell ⟨g, 0, none⟩ (.bool b')).setCell ⟨g, 1, none⟩ (.slice A' n' c')) b A n c X k := by
  obtain ⟨l, h1, h2, h3⟩ := h
  exact ⟨l, (h1.put x _ _ _ _).more (by simp [World.setCell]), h2, h3⟩
theorem Zn.put {w : World} {b2 b' : Bool} {A A2 A' : Option Addr} {n c n2 c2 n' c' k g : Nat} {X : Int} (h : Zn w A n c X k) (x : Bx w g b2 A2 n2 c2) : Zn ((w.setCell ⟨g, 0, none⟩ (.bool b')).setCell ⟨g, 1, none⟩ (.slice A' n' c')) A n c X k :=
  ⟨(h.1.put x _ _ _ _).more (by simp [World.setCell]), h.2⟩
theorem Rd.sput {w : World} {b2 b' : Bool} {A A2 A' : Option Addr} {n c n2 c2 n' c' g : Nat} {l : List Int} (h : Rd w w.heap.size A n c l) (x : Bx w g b2 A2 n2 c2) : Rd ((w.setCell ⟨g, 0, none⟩ (.bool b')).setCell ⟨g, 1, none⟩ (.slice A' n' c')) ((w.setCell ⟨g, 0, none⟩ (.bool b')).setCell ⟨g, 1, none⟩ (.slice A' n' c')).heap.size A n c l :=
  (h.put x _ _ _ _).more (by simp [World.setCell])
theorem Bx.aside {w : World} {b b' : Bool} {A A' : Option Addr} {n c n' c' g h : Nat} (x : Bx w h b A n c) (hg : h ≠ g) : Bx ((w.setCell ⟨g, 0, none⟩ (.bool b')).setCell ⟨g, 1, none⟩ (.slice A' n' c')) h b A n c := (x.far hg _).far hg _
theorem bthen {a b c : World} (h : Below a.heap.size a b) (k : Below b.heap.size b c) : Below a.heap.size a c := h.trans (k.mono h.size)
/-- Boxes, just laid. -/
theorem box2 (w : World) (b : Bool) (A : Option Addr) (n c : Nat) (b2 : Bool) (A2 : Option Addr) (n2 c2 : Nat) :
    Below w.heap.size w ((w.alloc (.cells #[.bool b, .slice A n c] 30)).alloc (.cells #[.bool b2, .slice A2 n2 c2] 30)) ∧
    Bx ((w.alloc (.cells #[.bool b, .slice A n c] 30)).alloc (.cells #[.bool b2, .slice A2 n2 c2] 30)) w.heap.size b A n c ∧
    Bx ((w.alloc (.cells #[.bool b, .slice A n c] 30)).alloc (.cells #[.bool b2, .slice A2 n2 c2] 30)) (w.heap.size + 1) b2 A2 n2 c2 :=
  ⟨below_alloc2 _ _ _, (Bx.new _ _ _ _ _).alloc _, by have := Bx.new (w.alloc (.cells #[.bool b, .slice A n c] 30)) b2 A2 n2 c2; simpa using this⟩
theorem box1 (w : World) (b : Bool) (A : Option Addr) (n c : Nat) :
    Below w.heap.size w (w.alloc (.cells #[.bool b, .slice A n c] 30)) ∧ Bx (w.alloc (.cells #[.bool b, .slice A n c] 30)) w.heap.size b A n c :=
  ⟨below_alloc _ _, Bx.new _ _ _ _ _⟩
theorem box3 (w : World) (b : Bool) (A : Option Addr) (n c : Nat) (b2 : Bool) (A2 : Option Addr) (n2 c2 : Nat) (b3 : Bool) (A3 : Option Addr) (n3 c3 : Nat) :
    Below w.heap.size w (((w.alloc (.cells #[.bool b, .slice A n c] 30)).alloc (.cells #[.bool b2, .slice A2 n2 c2] 30)).alloc (.cells #[.bool b3, .slice A3 n3 c3] 30)) ∧
    Bx (((w.alloc (.cells #[.bool b, .slice A n c] 30)).alloc (.cells #[.bool b2, .slice A2 n2 c2] 30)).alloc (.cells #[.bool b3, .slice A3 n3 c3] 30)) w.heap.size b A n c ∧
    Bx (((w.alloc (.cells #[.bool b, .slice A n c] 30)).alloc (.cells #[.bool b2, .slice A2 n2 c2] 30)).alloc (.cells #[.bool b3, .slice A3 n3 c3] 30)) (w.heap.size + 1) b2 A2 n2 c2 ∧
    Bx (((w.alloc (.cells #[.bool b, .slice A n c] 30)).alloc (.cells #[.bool b2, .slice A2 n2 c2] 30)).alloc (.cells #[.bool b3, .slice A3 n3 c3] 30)) (w.heap.size + 1 + 1) b3 A3 n3 c3 := by
  obtain ⟨h1, h2, h3⟩ := box2 w b A n c b2 A2 n2 c2
  refine ⟨below_alloc3 _ _ _ _, h2.alloc _, h3.alloc _, ?_⟩
  have := Bx.new ((w.alloc (.cells #[.bool b, .slice A n c] 30)).alloc (.cells #[.bool b2, .slice A2 n2 c2] 30)) b3 A3 n3 c3
  simpa using this
theorem box4 (w : World) (b : Bool) (A : Option Addr) (n c : Nat) (b2 : Bool) (A2 : Option Addr) (n2 c2 : Nat) (b3 : Bool) (A3 : Option Addr) (n3 c3 : Nat) (b4 : Bool) (A4 : Option Addr) (n4 c4 : Nat) :
    Below w.heap.size w ((((w.alloc (.cells #[.bool b, .slice A n c] 30)).alloc (.cells #[.bool b2, .slice A2 n2 c2] 30)).alloc (.cells #[.bool b3, .slice A3 n3 c3] 30)).alloc (.cells #[.bool b4, .slice A4 n4 c4] 30)) ∧
    Bx ((((w.alloc (.cells #[.bool b, .slice A n c] 30)).alloc (.cells #[.bool b2, .slice A2 n2 c2] 30)).alloc (.cells #[.bool b3, .slice A3 n3 c3] 30)).alloc (.cells #[.bool b4, .slice A4 n4 c4] 30)) w.heap.size b A n c ∧
    Bx ((((w.alloc (.cells #[.bool b, .slice A n c] 30)).alloc (.cells #[.bool b2, .slice A2 n2 c2] 30)).alloc (.cells #[.bool b3, .slice A3 n3 c3] 30)).alloc (.cells #[.bool b4, .slice A4 n4 c4] 30)) (w.heap.size + 1) b2 A2 n2 c2 ∧
    Bx ((((w.alloc (.cells #[.bool b, .slice A n c] 30)).alloc (.cells #[.bool b2, .slice A2 n2 c2] 30)).alloc (.cells #[.bool b3, .slice A3 n3 c3] 30)).alloc (.cells #[.bool b4, .slice A4 n4 c4] 30)) (w.heap.size + 1 + 1) b3 A3 n3 c3 ∧
    Bx ((((w.alloc (.cells #[.bool b, .slice A n c] 30)).alloc (.cells #[.bool b2, .slice A2 n2 c2] 30)).alloc (.cells #[.bool b3, .slice A3 n3 c3] 30)).alloc (.cells #[.bool b4, .slice A4 n4 c4] 30)) (w.heap.size + 1 + 1 + 1) b4 A4 n4 c4 := by
  obtain ⟨h1, h2, h3, h4⟩ := box3 w b A n c b2 A2 n2 c2 b3 A3 n3 c3
  refine ⟨h1.alloc (by simp; omega) _, h2.alloc _, h3.alloc _, h4.alloc _, ?_⟩
  have := Bx.new (((w.alloc (.cells #[.bool b, .slice A n c] 30)).alloc (.cells #[.bool b2, .slice A2 n2 c2] 30)).alloc (.cells #[.bool b3, .slice A3 n3 c3] 30)) b4 A4 n4 c4
  simpa using this
end
end Go.Proofs.YtbpamkpclofnbaaGreat
namespace Go.Proofs.YtbpamkpclofnbaaGreat
section
set_option maxRecDepth 100000
open Go.RowKit
set_option linter.unusedVariables false

theorem undrew {a b : World} (h : Below a.drew.heap.size a.drew b) : Below a.heap.size a b := ⟨h.os, h.tape, h.output, h.size, h.block⟩
theorem Zr.drw {w : World} {b : Bool} {A : Option Addr} {n c k : Nat} {X : Int} (h : Zr w b A n c X k) : Zr w.drew b A n c X k := h
theorem Zn.drw {w : World} {A : Option Addr} {n c k : Nat} {X : Int} (h : Zn w A n c X k) : Zn w.drew A n c X k := h
theorem Rd.drw {w : World} {A : Option Addr} {n c : Nat} {l : List Int} (h : Rd w w.heap.size A n c l) : Rd w.drew w.drew.heap.size A n c l := h
theorem Si.add {X Y : Int} {k : Nat} (h : Si X k) (h2 : Si Y k) : Si (X + Y) (k + 1) := (Sm.add h h2).le (by omega)
theorem Si.mul {X Y : Int} {j k : Nat} (h : Si X j) (h2 : Si Y k) : Si (X * Y) (j + k) := by unfold Si; rw [Int.natAbs_mul]; exact Sm.mul h h2
theorem Si.mono {X : Int} {j k : Nat} (h : Si X j) (hk : j ≤ k) : Si X k := Sm.mono h hk
theorem zi_add (b : Bool) (N M : Nat) : zi b N + zi b M = zi b (N + M) := by unfold zi; split <;> omega
theorem zi_sub (b : Bool) {N M : Nat} (h : M ≤ N) : zi b N + zi (!b) M = zi b (N - M) := by unfold zi; cases b <;> simp <;> omega
theorem zi_sub' (b : Bool) {N M : Nat} (h : N < M) : zi b N + zi (!b) M = zi (!b) (M - N) := by unfold zi; cases b <;> simp <;> omega
theorem zi_mul (b d : Bool) (N M : Nat) : zi b N * zi d M = zi (b != d) (N * M) := by unfold zi; cases b <;> cases d <;> simp [Int.neg_mul, Int.mul_neg]
theorem zi_not (b : Bool) (N : Nat) : zi (!b) N = - zi b N := by unfold zi; cases b <;> simp
/-- The sign of an integer. -/
def sgnI (X : Int) : Int := if X < 0 then -1 else if X = 0 then 0 else 1
set_option maxRecDepth 100000 in
set_option maxHeartbeats 1000000 in
theorem ZNorm_any {b : Bool} {A : Option Addr} {n c : Nat} {X : Int} {j : Nat} {w : World} (h : Zr w b A n c X j) (k : Nat) (hk : j ≤ k) :
    Calls Tryz.prog 86 #[.agg #[.bool b, .slice A n c]] w (OutZ w X k) := by
  obtain ⟨l, h, rfl, hn⟩ := h
  have hs := (Sm.of h hn).mono hk
  generalize hN : vl Wd l = N at *
  have HN := Lib.hid hN; clear hN
  go_enter Tryz.func86, Tryz.ntmps86
  go_wp2_with fail
  obtain ⟨hb, x_a, x_r⟩ := box2 w b A n c false none 0 0
  generalize (w.alloc (.cells #[.bool b, .slice A n c] 30)).alloc (.cells #[.bool false, .slice none 0 0] 30) = v1 at *
  replace h := h.go hb
  have q_a := x_a.al
  have q_r := x_r.al
  go_wp2_with fail
  go_region_held3 (fun w' => w'.cell? ⟨w.heap.size, 0, none⟩ = some (.bool b) ∧ w'.cell? ⟨w.heap.size, 1, none⟩ = some (.slice A n c))
    (first | (with_reducible exact ⟨x_a.c0, x_a.c1⟩) | (with_reducible exact ⟨(x_a.aside (by omega)).c0, (x_a.aside (by omega)).c1⟩) | (with_reducible exact ⟨((x_a.aside (by omega)).aside (by omega)).c0, ((x_a.aside (by omega)).aside (by omega)).c1⟩) | go_keep)
    (first | (go_at_call 135; (with_reducible refine (Norm_any _ _ _ l _ _ h.drw (Nat.le_refl _)).mono ?_); rintro e v2 ⟨A1, n1, c1, rfl, g1, hb1⟩; replace hb1 := undrew hb1; obtain ⟨x_a, x_r⟩ := mv2 hb1 x_a x_r; replace h := h.go hb1; replace hb := bthen hb hb1; clear hb1; replace q_a := x_a.al; replace q_r := x_r.al; rw [HN.out] at g1) | (go_at_call 118; (with_reducible refine (signed_any b A1 n1 c1 N _ k g1 hs).mono ?_); rintro e v3 ⟨rfl, z1, hb1⟩; obtain ⟨x_a, x_r⟩ := mv2 hb1 x_a x_r; replace h := h.go hb1; replace g1 := g1.go hb1; replace hb := bthen hb hb1; clear hb1; replace q_a := x_a.al; replace q_r := x_r.al))
  go_wp2
  replace x_a := x_a.aside (b' := (ngB (zi b N))) (A' := A1) (n' := n1) (c' := c1) (g := w.heap.size + 1) (by omega)
  replace h := h.sput (b' := (ngB (zi b N))) (A' := A1) (n' := n1) (c' := c1) x_r
  replace g1 := g1.sput (b' := (ngB (zi b N))) (A' := A1) (n' := n1) (c' := c1) x_r
  replace z1 := z1.put (b' := (ngB (zi b N))) (A' := A1) (n' := n1) (c' := c1) x_r
  replace hb := put_below (g := w.heap.size + 1) hb (by omega) (.bool (ngB (zi b N))) (.slice A1 n1 c1)
  replace x_r := x_r.put (ngB (zi b N)) A1 n1 c1
  clear q_a q_r
  generalize (v3.setCell ⟨w.heap.size + 1, 0, none⟩ (.bool (ngB (zi b N)))).setCell ⟨w.heap.size + 1, 1, none⟩ (.slice A1 n1 c1) = v4 at *
  have q_a := x_a.al
  have q_r := x_r.al
  refine bodyPost_ret (v := .agg #[.bool (ngB (zi b N)), .slice A1 n1 c1]) (by simp [results, Tryz.results86, go_sem, q_r]) rfl ?_
  exact ⟨_, _, _, rfl, z1, hb⟩

theorem sgnI_zero (b : Bool) : sgnI (zi b 0) = 0 := by unfold sgnI zi; cases b <;> simp
theorem sgnI_pos {N : Nat} (h : 0 < N) : sgnI (zi false N) = 1 := by unfold sgnI zi; simp; omega
theorem sgnI_neg {N : Nat} (h : 0 < N) : sgnI (zi true N) = -1 := by unfold sgnI zi; simp; omega
theorem sgnI_eq0 {X : Int} : sgnI X = 0 ↔ X = 0 := by unfold sgnI; split <;> (try split) <;> omega
theorem lay1 (w : World) (x : Int) (hx : Lm x) : Rd (w.alloc (.cells #[.int .u64 x] 69)) (w.alloc (.cells #[.int .u64 x] 69)).heap.size (some ⟨w.heap.size, 0, none⟩) 1 1 [x] :=
  (one_rd hx (by simp)).more (by simp)
theorem bl_pos {N : Nat} (h : 0 < N) : 0 < bl N := bl_ge (k := 0) (by rw [Nat.pow_zero]; exact h)
theorem bl_bound {l : List Int} {N n : Nat} (hl : Lim Wd l) (hn : l.length = n) (hN : vl Wd l = N) : bl N ≤ 64 * n := by
  subst hN hn
  exact bl_le (by have := vl_lt hl; rw [Wd_pow_k] at this; exact this)

set_option maxRecDepth 100000 in
set_option maxHeartbeats 1000000 in
theorem ZSign_any {b : Bool} {A : Option Addr} {n c : Nat} {X : Int} {j : Nat} {w : World} (h : Zr w b A n c X j) (hj : j ≤ 1000000) :
    Calls Tryz.prog 66 #[.agg #[.bool b, .slice A n c]] w fun e w' => e = .returned (.int .i64 (sgnI X)) ∧ Below w.heap.size w w' := by
  obtain ⟨l, h, rfl, hn⟩ := h
  have hbl := bl_bound h.lim h.len rfl
  generalize hN : vl Wd l = N at *
  have HN := Lib.hid hN; clear hN
  rcases Nat.eq_zero_or_pos N with h0 | h0
  · subst h0
    go_enter Tryz.func66, Tryz.ntmps66
    go_wp2_with fail
    obtain ⟨hb, x_a⟩ := box1 w b A n c
    generalize w.alloc (.cells #[.bool b, .slice A n c] 30) = v1 at *
    replace h := h.go hb
    have q_a := x_a.al
    go_wp2_with fail
    refine (BitLen_any _ _ _ _ _ _ h).mono ?_
    rintro e w' ⟨rfl, rfl⟩
    rw [HN.out, bl_zero]
    go_wp2
    go_ret
    exact ⟨ret_i64 (sgnI_zero _).symm, hb⟩
  · have hp := bl_pos h0
    have hp0 : ((bl N : Int) == 0) = false := by simp; omega
    generalize hβ : bl N = β at *
    have HB := Lib.hid hβ; clear hβ
    cases b
    · have hv := sgnI_pos h0
      have HV := Lib.hid hv; clear hv
      go_enter Tryz.func66, Tryz.ntmps66
      go_wp2_with fail
      obtain ⟨hb, x_a⟩ := box1 w false A n c
      generalize w.alloc (.cells #[.bool false, .slice A n c] 30) = v1 at *
      replace h := h.go hb
      have q_a := x_a.al
      go_wp2_with fail
      refine (BitLen_any _ _ _ _ _ _ h).mono ?_
      rintro e w' ⟨rfl, rfl⟩
      rw [HN.out, HB.out]
      go_wp2
      go_ret
      exact ⟨ret_i64 HV.out.symm, hb⟩
    · have hv := sgnI_neg h0
      have HV := Lib.hid hv; clear hv
      go_enter Tryz.func66, Tryz.ntmps66
      go_wp2_with fail
      obtain ⟨hb, x_a⟩ := box1 w true A n c
      generalize w.alloc (.cells #[.bool true, .slice A n c] 30) = v1 at *
      replace h := h.go hb
      have q_a := x_a.al
      go_wp2_with fail
      refine (BitLen_any _ _ _ _ _ _ h).mono ?_
      rintro e w' ⟨rfl, rfl⟩
      rw [HN.out, HB.out]
      go_wp2
      go_ret
      exact ⟨ret_i64 HV.out.symm, hb⟩

end
end Go.Proofs.YtbpamkpclofnbaaGreat
namespace Go.Proofs.YtbpamkpclofnbaaGreat
section
set_option maxRecDepth 100000
open Go.RowKit
set_option linter.unusedVariables false

theorem Sm.sub {N M k : Nat} (h : Sm N k) : Sm (N - M) k := h.le (by omega)
theorem not_ne {b b2 : Bool} (h : b ≠ b2) : b2 = !b := by cases b <;> cases b2 <;> simp_all

set_option maxRecDepth 100000 in
set_option maxHeartbeats 4000000 in
theorem ZAdd_any {b b2 : Bool} {A A2 : Option Addr} {n c n2 c2 : Nat} {X Y : Int} {j j2 : Nat} {w : World} (h : Zr w b A n c X j) (h2 : Zr w b2 A2 n2 c2 Y j2) (k : Nat) (hk : j + 1 ≤ k) (hk2 : j2 + 1 ≤ k) (hj : k ≤ 1000000) :
    Calls Tryz.prog 83 #[.agg #[.bool b, .slice A n c], .agg #[.bool b2, .slice A2 n2 c2]] w (OutZ w (X + Y) k) := by
  obtain ⟨l, h, rfl, hn⟩ := h
  obtain ⟨m, h2, rfl, hn2⟩ := h2
  have hs := Sm.of h hn
  have hs2 := Sm.of h2 hn2
  generalize hN : vl Wd l = N at *
  have HN := Lib.hid hN; clear hN
  generalize hM : vl Wd m = M at *
  have HM := Lib.hid hM; clear hM
  by_cases hbb : b = b2
  · subst hbb
    rw [zi_add]
    have hs3 : Sm (N + M) k := ((hs.mono (show j ≤ k - 1 by omega)).add (hs2.mono (show j2 ≤ k - 1 by omega))).mono (by omega)
    clear hs hs2
    go_enter Tryz.func83, Tryz.ntmps83
    go_wp2_with fail
    obtain ⟨hb, x_a, x_b, x_r⟩ := box3 w b A n c b A2 n2 c2 false none 0 0
    generalize ((w.alloc (.cells #[.bool b, .slice A n c] 30)).alloc (.cells #[.bool b, .slice A2 n2 c2] 30)).alloc (.cells #[.bool false, .slice none 0 0] 30) = v1 at *
    replace h := h.go hb
    replace h2 := h2.go hb
    have q_a := x_a.al
    have q_b := x_b.al
    have q_r := x_r.al
    go_wp2_with fail
    go_region_held3 (fun w' => w'.cell? ⟨w.heap.size, 0, none⟩ = some (.bool b) ∧ w'.cell? ⟨w.heap.size, 1, none⟩ = some (.slice A n c) ∧ w'.cell? ⟨w.heap.size + 1, 0, none⟩ = some (.bool b) ∧ w'.cell? ⟨w.heap.size + 1, 1, none⟩ = some (.slice A2 n2 c2))
      (first | exact ⟨x_a.c0, x_a.c1, x_b.c0, x_b.c1⟩ | exact ⟨(x_a.aside (by omega)).c0, (x_a.aside (by omega)).c1, (x_b.aside (by omega)).c0, (x_b.aside (by omega)).c1⟩ | go_keep | (trace_state; fail))
      (first | (go_at_call 132; (with_reducible refine (Add_any _ _ _ _ _ _ _ _ _ h.drw h2.drw (by omega) (by omega)).mono ?_); rintro e v2 ⟨A1, n1, c1, rfl, g1, hb1⟩; replace hb1 := undrew hb1; obtain ⟨x_a, x_b, x_r⟩ := mv3 hb1 x_a x_b x_r; replace h := h.go hb1; replace h2 := h2.go hb1; replace hb := bthen hb hb1; clear hb1; replace q_a := x_a.al; replace q_b := x_b.al; replace q_r := x_r.al; rw [HN.out, HM.out] at g1) | (go_at_call 118; (with_reducible refine (signed_any b A1 n1 c1 (N + M) _ k g1 hs3).mono ?_); rintro e v3 ⟨rfl, z1, hb1⟩; obtain ⟨x_a, x_b, x_r⟩ := mv3 hb1 x_a x_b x_r; replace h := h.go hb1; replace h2 := h2.go hb1; replace g1 := g1.go hb1; replace hb := bthen hb hb1; clear hb1; replace q_a := x_a.al; replace q_b := x_b.al; replace q_r := x_r.al))
    go_wp2
    replace x_a := x_a.aside (b' := (ngB (zi b (N + M)))) (A' := A1) (n' := n1) (c' := c1) (g := w.heap.size + 1 + 1) (by omega)
    replace x_b := x_b.aside (b' := (ngB (zi b (N + M)))) (A' := A1) (n' := n1) (c' := c1) (g := w.heap.size + 1 + 1) (by omega)
    replace h := h.sput (b' := (ngB (zi b (N + M)))) (A' := A1) (n' := n1) (c' := c1) x_r
    replace h2 := h2.sput (b' := (ngB (zi b (N + M)))) (A' := A1) (n' := n1) (c' := c1) x_r
    replace g1 := g1.sput (b' := (ngB (zi b (N + M)))) (A' := A1) (n' := n1) (c' := c1) x_r
    replace z1 := z1.put (b' := (ngB (zi b (N + M)))) (A' := A1) (n' := n1) (c' := c1) x_r
    replace hb := put_below (g := w.heap.size + 1 + 1) hb (by omega) (.bool (ngB (zi b (N + M)))) (.slice A1 n1 c1)
    replace x_r := x_r.put (ngB (zi b (N + M))) A1 n1 c1
    clear q_a q_b q_r
    generalize (v3.setCell ⟨w.heap.size + 1 + 1, 0, none⟩ (.bool (ngB (zi b (N + M))))).setCell ⟨w.heap.size + 1 + 1, 1, none⟩ (.slice A1 n1 c1) = v4 at *
    have q_a := x_a.al
    have q_b := x_b.al
    have q_r := x_r.al
    refine bodyPost_ret (v := .agg #[.bool (ngB (zi b (N + M))), .slice A1 n1 c1]) (by simp [results, Tryz.results83, go_sem, q_r]) rfl ?_
    exact ⟨_, _, _, rfl, z1, hb⟩
  · obtain rfl := not_ne hbb
    clear hbb
    rcases Nat.lt_or_ge N M with hlt | hge
    · rw [zi_sub' b hlt]
      have hs3 : Sm (M - N) k := (hs2.mono (show j2 ≤ k by omega)).sub
      clear hs hs2
      go_enter Tryz.func83, Tryz.ntmps83
      go_wp2_with fail
      obtain ⟨hb, x_a, x_b, x_r⟩ := box3 w b A n c (!b) A2 n2 c2 false none 0 0
      generalize ((w.alloc (.cells #[.bool b, .slice A n c] 30)).alloc (.cells #[.bool (!b), .slice A2 n2 c2] 30)).alloc (.cells #[.bool false, .slice none 0 0] 30) = v1 at *
      replace h := h.go hb
      replace h2 := h2.go hb
      have q_a := x_a.al
      have q_b := x_b.al
      have q_r := x_r.al
      go_wp2_with fail
      refine (Sub_less _ _ _ _ _ _ _ _ _ h h2 (by omega) (by rw [HN.out, HM.out]; exact hlt)).mono ?_
      rintro e v2 ⟨rfl, hq⟩
      have hb1 := hq.bel; clear hq
      obtain ⟨x_a, x_b, x_r⟩ := mv3 hb1 x_a x_b x_r
      replace h := h.go hb1
      replace h2 := h2.go hb1
      replace hb := bthen hb hb1
      clear hb1
      replace q_a := x_a.al
      replace q_b := x_b.al
      replace q_r := x_r.al
      go_wp2_with fail
      refine (Sub_any _ _ _ _ _ _ _ _ _ h2 h (by omega) (by rw [HN.out, HM.out]; omega)).mono ?_
      rintro e v3 ⟨A1, n1, c1, rfl, g1, hb1⟩
      obtain ⟨x_a, x_b, x_r⟩ := mv3 hb1 x_a x_b x_r
      replace h := h.go hb1
      replace h2 := h2.go hb1
      replace hb := bthen hb hb1
      clear hb1
      replace q_a := x_a.al
      replace q_b := x_b.al
      replace q_r := x_r.al
      rw [HN.out, HM.out] at g1
      go_wp2_with fail
      refine (signed_any (!b) A1 n1 c1 (M - N) _ k g1 hs3).mono ?_
      rintro e v4 ⟨rfl, z1, hb1⟩
      obtain ⟨x_a, x_b, x_r⟩ := mv3 hb1 x_a x_b x_r
      replace h := h.go hb1
      replace h2 := h2.go hb1
      replace g1 := g1.go hb1
      replace hb := bthen hb hb1
      clear hb1
      replace q_a := x_a.al
      replace q_b := x_b.al
      replace q_r := x_r.al
      go_wp2
      replace x_a := x_a.aside (b' := (ngB (zi (!b) (M - N)))) (A' := A1) (n' := n1) (c' := c1) (g := w.heap.size + 1 + 1) (by omega)
      replace x_b := x_b.aside (b' := (ngB (zi (!b) (M - N)))) (A' := A1) (n' := n1) (c' := c1) (g := w.heap.size + 1 + 1) (by omega)
      replace h := h.sput (b' := (ngB (zi (!b) (M - N)))) (A' := A1) (n' := n1) (c' := c1) x_r
      replace h2 := h2.sput (b' := (ngB (zi (!b) (M - N)))) (A' := A1) (n' := n1) (c' := c1) x_r
      replace g1 := g1.sput (b' := (ngB (zi (!b) (M - N)))) (A' := A1) (n' := n1) (c' := c1) x_r
      replace z1 := z1.put (b' := (ngB (zi (!b) (M - N)))) (A' := A1) (n' := n1) (c' := c1) x_r
      replace hb := put_below (g := w.heap.size + 1 + 1) hb (by omega) (.bool (ngB (zi (!b) (M - N)))) (.slice A1 n1 c1)
      replace x_r := x_r.put (ngB (zi (!b) (M - N))) A1 n1 c1
      clear q_a q_b q_r
      generalize (v4.setCell ⟨w.heap.size + 1 + 1, 0, none⟩ (.bool (ngB (zi (!b) (M - N))))).setCell ⟨w.heap.size + 1 + 1, 1, none⟩ (.slice A1 n1 c1) = v5 at *
      have q_a := x_a.al
      have q_b := x_b.al
      have q_r := x_r.al
      refine bodyPost_ret (v := .agg #[.bool (ngB (zi (!b) (M - N))), .slice A1 n1 c1]) (by simp [results, Tryz.results83, go_sem, q_r]) rfl ?_
      exact ⟨_, _, _, rfl, z1, hb⟩
    · rw [zi_sub b hge]
      have hs3 : Sm (N - M) k := (hs.mono (show j ≤ k by omega)).sub
      clear hs hs2
      go_enter Tryz.func83, Tryz.ntmps83
      go_wp2_with fail
      obtain ⟨hb, x_a, x_b, x_r⟩ := box3 w b A n c (!b) A2 n2 c2 false none 0 0
      generalize ((w.alloc (.cells #[.bool b, .slice A n c] 30)).alloc (.cells #[.bool (!b), .slice A2 n2 c2] 30)).alloc (.cells #[.bool false, .slice none 0 0] 30) = v1 at *
      replace h := h.go hb
      replace h2 := h2.go hb
      have q_a := x_a.al
      have q_b := x_b.al
      have q_r := x_r.al
      go_wp2_with fail
      refine (Sub_any _ _ _ _ _ _ _ _ _ h h2 (by omega) (by rw [HN.out, HM.out]; exact hge)).mono ?_
      rintro e v2 ⟨A1, n1, c1, rfl, g1, hb1⟩
      obtain ⟨x_a, x_b, x_r⟩ := mv3 hb1 x_a x_b x_r
      replace h := h.go hb1
      replace h2 := h2.go hb1
      replace hb := bthen hb hb1
      clear hb1
      replace q_a := x_a.al
      replace q_b := x_b.al
      replace q_r := x_r.al
      rw [HN.out, HM.out] at g1
      go_wp2_with fail
      refine (signed_any b A1 n1 c1 (N - M) _ k g1 hs3).mono ?_
      rintro e v3 ⟨rfl, z1, hb1⟩
      obtain ⟨x_a, x_b, x_r⟩ := mv3 hb1 x_a x_b x_r
      replace h := h.go hb1
      replace h2 := h2.go hb1
      replace g1 := g1.go hb1
      replace hb := bthen hb hb1
      clear hb1
      replace q_a := x_a.al
      replace q_b := x_b.al
      replace q_r := x_r.al
      go_wp2
      replace x_a := x_a.aside (b' := (ngB (zi b (N - M)))) (A' := A1) (n' := n1) (c' := c1) (g := w.heap.size + 1 + 1) (by omega)
      replace x_b := x_b.aside (b' := (ngB (zi b (N - M)))) (A' := A1) (n' := n1) (c' := c1) (g := w.heap.size + 1 + 1) (by omega)
      replace h := h.sput (b' := (ngB (zi b (N - M)))) (A' := A1) (n' := n1) (c' := c1) x_r
      replace h2 := h2.sput (b' := (ngB (zi b (N - M)))) (A' := A1) (n' := n1) (c' := c1) x_r
      replace g1 := g1.sput (b' := (ngB (zi b (N - M)))) (A' := A1) (n' := n1) (c' := c1) x_r
      replace z1 := z1.put (b' := (ngB (zi b (N - M)))) (A' := A1) (n' := n1) (c' := c1) x_r
      replace hb := put_below (g := w.heap.size + 1 + 1) hb (by omega) (.bool (ngB (zi b (N - M)))) (.slice A1 n1 c1)
      replace x_r := x_r.put (ngB (zi b (N - M))) A1 n1 c1
      clear q_a q_b q_r
      generalize (v3.setCell ⟨w.heap.size + 1 + 1, 0, none⟩ (.bool (ngB (zi b (N - M))))).setCell ⟨w.heap.size + 1 + 1, 1, none⟩ (.slice A1 n1 c1) = v4 at *
      have q_a := x_a.al
      have q_b := x_b.al
      have q_r := x_r.al
      refine bodyPost_ret (v := .agg #[.bool (ngB (zi b (N - M))), .slice A1 n1 c1]) (by simp [results, Tryz.results83, go_sem, q_r]) rfl ?_
      exact ⟨_, _, _, rfl, z1, hb⟩
end
end Go.Proofs.YtbpamkpclofnbaaGreat
namespace Go.Proofs.YtbpamkpclofnbaaGreat
section
set_option maxRecDepth 100000
open Go.RowKit
set_option linter.unusedVariables false

theorem Zr.flip {w : World} {b : Bool} {A : Option Addr} {n c k : Nat} {X : Int} (h : Zr w b A n c X k) : Zr w (!b) A n c (-X) k := by
  obtain ⟨l, h1, rfl, h3⟩ := h
  exact ⟨l, h1, zi_not _ _, h3⟩
theorem zi_mul' (b d : Bool) (N M : Nat) : zi b N * zi d M = zi (!(b == d)) (N * M) := by rw [zi_mul]; rfl
theorem Sm.div {N j : Nat} (d : Nat) (h : Sm N j) : Sm (N / d) j := h.le (Nat.div_le_self _ _)
theorem Sm.one {k : Nat} (h : 1 ≤ k) : Sm 1 k := Nat.lt_of_lt_of_le Wd2 (by have := Nat.pow_le_pow_right (n := Wd) Wd0 h; simpa using this)
set_option maxRecDepth 100000 in
set_option maxHeartbeats 4000000 in
theorem ZSub_any {b b2 : Bool} {A A2 : Option Addr} {n c n2 c2 : Nat} {X Y : Int} {j j2 : Nat} {w : World} (h : Zr w b A n c X j) (h2 : Zr w b2 A2 n2 c2 Y j2) (k : Nat) (hk : j + 1 ≤ k) (hk2 : j2 + 1 ≤ k) (hj : k ≤ 1000000) :
    Calls Tryz.prog 116 #[.agg #[.bool b, .slice A n c], .agg #[.bool b2, .slice A2 n2 c2]] w (OutZ w (X - Y) k) := by
  rw [Int.sub_eq_add_neg]
  go_enter Tryz.func116, Tryz.ntmps116
  go_wp2_with fail
  obtain ⟨hb, x_a, x_b, x_r⟩ := box3 w b A n c b2 A2 n2 c2 false none 0 0
  generalize ((w.alloc (.cells #[.bool b, .slice A n c] 30)).alloc (.cells #[.bool b2, .slice A2 n2 c2] 30)).alloc (.cells #[.bool false, .slice none 0 0] 30) = v1 at *
  obtain ⟨h, h2⟩ := mv2 hb h h2
  have q_a := x_a.al
  have q_b := x_b.al
  have q_r := x_r.al
  go_wp2_with fail
  go_region_held3 (fun w' => w'.cell? ⟨w.heap.size, 0, none⟩ = some (.bool b) ∧ w'.cell? ⟨w.heap.size, 1, none⟩ = some (.slice A n c) ∧ w'.cell? ⟨w.heap.size + 1, 0, none⟩ = some (.bool b2) ∧ w'.cell? ⟨w.heap.size + 1, 1, none⟩ = some (.slice A2 n2 c2))
    (first | exact ⟨x_a.c0, x_a.c1, x_b.c0, x_b.c1⟩ | exact ⟨(x_a.aside (by omega)).c0, (x_a.aside (by omega)).c1, (x_b.aside (by omega)).c0, (x_b.aside (by omega)).c1⟩ | go_keep | (trace_state; fail))
    (first | (go_at_call 123; (with_reducible refine (flip_any b2 A2 n2 c2 _).mono ?_); rintro e v2 ⟨rfl, hb1⟩; replace hb1 := undrew hb1; obtain ⟨x_a, x_b, x_r, h, h2⟩ := mv5 hb1 x_a x_b x_r h h2; replace hb := bthen hb hb1; clear hb1; replace q_a := x_a.al; replace q_b := x_b.al; replace q_r := x_r.al) | (go_at_call 83; (with_reducible refine (ZAdd_any h h2.flip k hk hk2 hj).mono ?_); rintro e v3 ⟨A1, n1, c1, rfl, z1, hb1⟩; obtain ⟨x_a, x_b, x_r, h, h2⟩ := mv5 hb1 x_a x_b x_r h h2; replace hb := bthen hb hb1; clear hb1; replace q_a := x_a.al; replace q_b := x_b.al; replace q_r := x_r.al))
  go_wp2
  replace x_a := x_a.aside (b' := (ngB (X + -Y))) (A' := A1) (n' := n1) (c' := c1) (g := w.heap.size + 1 + 1) (by omega)
  replace x_b := x_b.aside (b' := (ngB (X + -Y))) (A' := A1) (n' := n1) (c' := c1) (g := w.heap.size + 1 + 1) (by omega)
  replace h := h.put (b' := (ngB (X + -Y))) (A' := A1) (n' := n1) (c' := c1) x_r
  replace h2 := h2.put (b' := (ngB (X + -Y))) (A' := A1) (n' := n1) (c' := c1) x_r
  replace z1 := z1.put (b' := (ngB (X + -Y))) (A' := A1) (n' := n1) (c' := c1) x_r
  replace hb := put_below (g := w.heap.size + 1 + 1) hb (by omega) (.bool (ngB (X + -Y))) (.slice A1 n1 c1)
  replace x_r := x_r.put (ngB (X + -Y)) A1 n1 c1
  clear q_a q_b q_r
  generalize (v3.setCell ⟨w.heap.size + 1 + 1, 0, none⟩ (.bool (ngB (X + -Y)))).setCell ⟨w.heap.size + 1 + 1, 1, none⟩ (.slice A1 n1 c1) = v4 at *
  have q_a := x_a.al
  have q_b := x_b.al
  have q_r := x_r.al
  refine bodyPost_ret (v := .agg #[.bool (ngB (X + -Y)), .slice A1 n1 c1]) (by simp [results, Tryz.results116, go_sem, q_r]) rfl ?_
  exact ⟨_, _, _, rfl, z1, hb⟩

set_option maxRecDepth 100000 in
set_option maxHeartbeats 4000000 in
theorem ZMul_any {b b2 : Bool} {A A2 : Option Addr} {n c n2 c2 : Nat} {X Y : Int} {j j2 : Nat} {w : World} (h : Zr w b A n c X j) (h2 : Zr w b2 A2 n2 c2 Y j2) (k : Nat) (hk : j + j2 ≤ k) (hj : k ≤ 1000000) :
    Calls Tryz.prog 84 #[.agg #[.bool b, .slice A n c], .agg #[.bool b2, .slice A2 n2 c2]] w (OutZ w (X * Y) k) := by
  obtain ⟨l, h, rfl, hn⟩ := h
  obtain ⟨m, h2, rfl, hn2⟩ := h2
  have hs := Sm.of h hn
  have hs2 := Sm.of h2 hn2
  generalize hN : vl Wd l = N at *
  have HN := Lib.hid hN; clear hN
  generalize hM : vl Wd m = M at *
  have HM := Lib.hid hM; clear hM
  rw [zi_mul']
  have hs3 : Sm (N * M) k := (hs.mul hs2).mono hk
  clear hs hs2
  go_enter Tryz.func84, Tryz.ntmps84
  go_wp2_with fail
  obtain ⟨hb, x_a, x_b, x_r⟩ := box3 w b A n c b2 A2 n2 c2 false none 0 0
  generalize ((w.alloc (.cells #[.bool b, .slice A n c] 30)).alloc (.cells #[.bool b2, .slice A2 n2 c2] 30)).alloc (.cells #[.bool false, .slice none 0 0] 30) = v1 at *
  replace h := h.go hb
  replace h2 := h2.go hb
  have q_a := x_a.al
  have q_b := x_b.al
  have q_r := x_r.al
  go_wp2_with fail
  go_region_held3 (fun w' => w'.cell? ⟨w.heap.size, 0, none⟩ = some (.bool b) ∧ w'.cell? ⟨w.heap.size, 1, none⟩ = some (.slice A n c) ∧ w'.cell? ⟨w.heap.size + 1, 0, none⟩ = some (.bool b2) ∧ w'.cell? ⟨w.heap.size + 1, 1, none⟩ = some (.slice A2 n2 c2))
    (first | exact ⟨x_a.c0, x_a.c1, x_b.c0, x_b.c1⟩ | exact ⟨(x_a.aside (by omega)).c0, (x_a.aside (by omega)).c1, (x_b.aside (by omega)).c0, (x_b.aside (by omega)).c1⟩ | go_keep | (trace_state; fail))
    (first | (go_at_call 134; (with_reducible refine (Mul_any _ _ _ _ _ _ _ _ _ h.drw h2.drw (by omega) (by omega)).mono ?_); rintro e v2 ⟨A1, n1, c1, rfl, g1, hb1⟩; replace hb1 := undrew hb1; obtain ⟨x_a, x_b, x_r⟩ := mv3 hb1 x_a x_b x_r; replace h := h.go hb1; replace h2 := h2.go hb1; replace hb := bthen hb hb1; clear hb1; replace q_a := x_a.al; replace q_b := x_b.al; replace q_r := x_r.al; rw [HN.out, HM.out] at g1) | (go_at_call 118; (with_reducible refine (signed_any (!(b == b2)) A1 n1 c1 (N * M) _ k g1 hs3).mono ?_); rintro e v3 ⟨rfl, z1, hb1⟩; obtain ⟨x_a, x_b, x_r⟩ := mv3 hb1 x_a x_b x_r; replace h := h.go hb1; replace h2 := h2.go hb1; replace g1 := g1.go hb1; replace hb := bthen hb hb1; clear hb1; replace q_a := x_a.al; replace q_b := x_b.al; replace q_r := x_r.al))
  go_wp2
  replace x_a := x_a.aside (b' := (ngB (zi (!(b == b2)) (N * M)))) (A' := A1) (n' := n1) (c' := c1) (g := w.heap.size + 1 + 1) (by omega)
  replace x_b := x_b.aside (b' := (ngB (zi (!(b == b2)) (N * M)))) (A' := A1) (n' := n1) (c' := c1) (g := w.heap.size + 1 + 1) (by omega)
  replace h := h.sput (b' := (ngB (zi (!(b == b2)) (N * M)))) (A' := A1) (n' := n1) (c' := c1) x_r
  replace h2 := h2.sput (b' := (ngB (zi (!(b == b2)) (N * M)))) (A' := A1) (n' := n1) (c' := c1) x_r
  replace g1 := g1.sput (b' := (ngB (zi (!(b == b2)) (N * M)))) (A' := A1) (n' := n1) (c' := c1) x_r
  replace z1 := z1.put (b' := (ngB (zi (!(b == b2)) (N * M)))) (A' := A1) (n' := n1) (c' := c1) x_r
  replace hb := put_below (g := w.heap.size + 1 + 1) hb (by omega) (.bool (ngB (zi (!(b == b2)) (N * M)))) (.slice A1 n1 c1)
  replace x_r := x_r.put (ngB (zi (!(b == b2)) (N * M))) A1 n1 c1
  clear q_a q_b q_r
  generalize (v3.setCell ⟨w.heap.size + 1 + 1, 0, none⟩ (.bool (ngB (zi (!(b == b2)) (N * M))))).setCell ⟨w.heap.size + 1 + 1, 1, none⟩ (.slice A1 n1 c1) = v4 at *
  have q_a := x_a.al
  have q_b := x_b.al
  have q_r := x_r.al
  refine bodyPost_ret (v := .agg #[.bool (ngB (zi (!(b == b2)) (N * M))), .slice A1 n1 c1]) (by simp [results, Tryz.results84, go_sem, q_r]) rfl ?_
  exact ⟨_, _, _, rfl, z1, hb⟩

set_option maxRecDepth 100000 in
set_option maxHeartbeats 1000000 in
theorem ZNeg_any {b : Bool} {A : Option Addr} {n c : Nat} {X : Int} {j : Nat} {w : World} (h : Zr w b A n c X j) (k : Nat) (hk : j ≤ k) :
    Calls Tryz.prog 68 #[.agg #[.bool b, .slice A n c]] w (OutZ w (-X) k) := by
  go_enter Tryz.func68, Tryz.ntmps68
  go_wp2_with fail
  obtain ⟨hb, x_a, x_r⟩ := box2 w b A n c false none 0 0
  generalize (w.alloc (.cells #[.bool b, .slice A n c] 30)).alloc (.cells #[.bool false, .slice none 0 0] 30) = v1 at *
  replace h := h.keep hb
  have q_a := x_a.al
  have q_r := x_r.al
  go_wp2_with fail
  refine (flip_any b A n c _).mono ?_
  rintro e v2 ⟨rfl, hb1⟩
  obtain ⟨x_a, x_r, h⟩ := mv3 hb1 x_a x_r h
  replace hb := bthen hb hb1
  clear hb1
  replace q_a := x_a.al
  replace q_r := x_r.al
  go_wp2_with fail
  refine (ZNorm_any h.flip k hk).mono ?_
  rintro e v3 ⟨A1, n1, c1, rfl, z1, hb1⟩
  obtain ⟨x_a, x_r, h⟩ := mv3 hb1 x_a x_r h
  replace hb := bthen hb hb1
  clear hb1
  replace q_a := x_a.al
  replace q_r := x_r.al
  go_wp2
  replace x_a := x_a.aside (b' := (ngB (-X))) (A' := A1) (n' := n1) (c' := c1) (g := w.heap.size + 1) (by omega)
  replace h := h.put (b' := (ngB (-X))) (A' := A1) (n' := n1) (c' := c1) x_r
  replace z1 := z1.put (b' := (ngB (-X))) (A' := A1) (n' := n1) (c' := c1) x_r
  replace hb := put_below (g := w.heap.size + 1) hb (by omega) (.bool (ngB (-X))) (.slice A1 n1 c1)
  replace x_r := x_r.put (ngB (-X)) A1 n1 c1
  clear q_a q_r
  generalize (v3.setCell ⟨w.heap.size + 1, 0, none⟩ (.bool (ngB (-X)))).setCell ⟨w.heap.size + 1, 1, none⟩ (.slice A1 n1 c1) = v4 at *
  have q_a := x_a.al
  have q_r := x_r.al
  refine bodyPost_ret (v := .agg #[.bool (ngB (-X)), .slice A1 n1 c1]) (by simp [results, Tryz.results68, go_sem, q_r]) rfl ?_
  exact ⟨_, _, _, rfl, z1, hb⟩

theorem Sm.gcd {N M k : Nat} (h : Sm N k) (h2 : Sm M k) : Sm (Nat.gcd N M) k := by
  rcases Nat.eq_zero_or_pos N with h0 | h0
  · subst h0; rw [Nat.gcd_zero_left]; exact h2
  · exact h.le (Nat.gcd_le_left _ h0)
set_option maxHeartbeats 400000 in
theorem inc_any {A : Option Addr} {n c : Nat} {l : List Int} {w : World} (h : Rd w w.heap.size A n c l) (hn : n ≤ 1000000) :
    Calls Tryz.prog 151 #[.slice A n c] w (Out w (vl Wd l + 1)) := by
  have hb0 := below_alloc w (.cells #[.int .u64 1] 69)
  have h1 := lay1 w 1 (lm_small (by omega) (by omega))
  replace h := h.go hb0
  go_enter Tryz.func151, Tryz.ntmps151
  go_wp2_with fail
  refine (Add_any _ _ _ _ _ _ _ _ _ h h1 (by omega) (by omega)).mono ?_
  rintro e w1 ⟨A1, n1, c1, rfl, g1, hb1⟩
  rw [vl_one, show (1 : Int).toNat = 1 from rfl] at g1
  go_wp2
  go_ret
  exact ⟨_, _, _, rfl, g1, bthen hb0 hb1⟩
end
end Go.Proofs.YtbpamkpclofnbaaGreat
namespace Go.Proofs.YtbpamkpclofnbaaGreat
section
set_option maxRecDepth 100000
open Go.RowKit
set_option linter.unusedVariables false

theorem ed_unique {X Y q r : Int} (hY : Y ≠ 0) (h : X = Y * q + r) (h0 : 0 ≤ r) (h1 : r < (Y.natAbs : Int)) : X / Y = q ∧ X % Y = r := by
  rcases Int.lt_or_gt_of_ne hY with hn | hp
  · have := (Int.ediv_emod_unique (a := X) (b := -Y) (r := r) (q := -q) (by omega)).2 ⟨by rw [h, Int.neg_mul_neg]; omega, h0, by omega⟩
    rw [Int.ediv_neg, Int.emod_neg] at this
    exact ⟨by omega, this.2⟩
  · exact (Int.ediv_emod_unique hp).2 ⟨by rw [h]; omega, h0, by omega⟩
theorem zi_ne {b : Bool} {M : Nat} (h : 0 < M) : zi b M ≠ 0 := by unfold zi; split <;> omega
theorem dm_plain {b b2 : Bool} {N M : Nat} (hM : 0 < M) (h : b = false ∨ N % M = 0) : zi b N / zi b2 M = zi (!(b == b2)) (N / M) ∧ zi b N % zi b2 M = zi false (N % M) := by
  have h1 := Nat.mod_add_div N M
  have h2 := Nat.mod_lt N hM
  refine ed_unique (zi_ne hM) ?_ (by rw [zi_false]; omega) (by rw [zi_abs, zi_false]; omega)
  rw [zi_mul']
  rcases h with rfl | h
  · have e : (!b2 == !(false == b2)) = false := by cases b2 <;> rfl
    have e' : (!(b2 == !(false == b2))) = false := by cases b2 <;> rfl
    rw [e', zi_false, zi_false, zi_false]; omega
  · have e' : (!(b2 == !(b == b2))) = b := by cases b2 <;> cases b <;> rfl
    rw [e', h, zi_false]
    have : M * (N / M) = N := by omega
    rw [this]; simp
theorem dm_more {b2 : Bool} {N M : Nat} (hM : 0 < M) (h : 0 < N % M) : zi true N / zi b2 M = zi (!(true == b2)) (N / M + 1) ∧ zi true N % zi b2 M = zi false (M - N % M) := by
  have h1 := Nat.mod_add_div N M
  have h2 := Nat.mod_lt N hM
  refine ed_unique (zi_ne hM) ?_ (by rw [zi_false]; omega) (by rw [zi_abs, zi_false]; omega)
  rw [zi_mul']
  have e' : (!(b2 == !(true == b2))) = true := by cases b2 <;> rfl
  rw [e', zi_true, zi_true, zi_false, Nat.mul_add, Nat.mul_one]
  omega
def DqPost (w : World) (Q R : Int) (k : Nat) (e : Ending) (w' : World) : Prop :=
  ∃ A n c A2 n2 c2, e = .returned (.tuple #[.agg #[.bool (ngB Q), .slice A n c], .agg #[.bool (ngB R), .slice A2 n2 c2], .bool true]) ∧ Zn w' A n c Q k ∧ Zn w' A2 n2 c2 R k ∧ Below w.heap.size w w'
theorem rd_zero {w : World} {B n c N : Nat} {A : Option Addr} (h : Rd w B A n c (dg Wd N)) (h0 : N = 0) : n = 0 := by
  have := h.len; rw [h0, dg_zero] at this; simpa using this.symm
theorem rd_pos {w : World} {B n c N : Nat} {A : Option Addr} (h : Rd w B A n c (dg Wd N)) (h0 : 0 < N) : 0 < n := by
  rcases Nat.eq_zero_or_pos n with h1 | h1
  · have := h.len; rw [h1] at this; have := (dg_eq_nil Wd2).1 (List.eq_nil_of_length_eq_zero this); omega
  · exact h1
theorem Sm.le1 {N k : Nat} (h : Sm N (k - 1)) (hk : 1 ≤ k) : Sm (N + 1) k := by
  unfold Sm at *
  obtain ⟨q, rfl⟩ : ∃ q, k = q + 1 := ⟨k - 1, by omega⟩
  rw [Nat.add_sub_cancel] at h
  have := Nat.mul_le_mul_left (Wd ^ q) Wd2
  have h0 : 0 < Wd ^ q := Nat.pow_pos Wd0
  rw [Nat.pow_succ]
  generalize Wd ^ q * Wd = r at *
  generalize Wd ^ q = s at *
  omega
theorem Sm.mod {N M k : Nat} (h : Sm N k) : Sm (N % M) k := h.le (Nat.mod_le _ _)

set_option maxRecDepth 100000 in
set_option maxHeartbeats 8000000 in
theorem ZDivMod_any {b b2 : Bool} {A A2 : Option Addr} {n c n2 c2 : Nat} {X Y : Int} {j j2 : Nat} {w : World} (h : Zr w b A n c X j) (h2 : Zr w b2 A2 n2 c2 Y j2) (hY : Y ≠ 0) (k : Nat) (hk : j + 1 ≤ k) (hk2 : j2 ≤ k) (hj : k ≤ 1000000) :
    Calls Tryz.prog 115 #[.agg #[.bool b, .slice A n c], .agg #[.bool b2, .slice A2 n2 c2]] w (DqPost w (X / Y) (X % Y) k) := by
  obtain ⟨l, h, rfl, hn⟩ := h
  obtain ⟨m, h2, rfl, hn2⟩ := h2
  have hs := Sm.of h hn
  have hs2 := Sm.of h2 hn2
  generalize hN : vl Wd l = N at *
  have HN := Lib.hid hN; clear hN
  generalize hM : vl Wd m = M at *
  have HM := Lib.hid hM; clear hM
  have hM0 : 0 < M := by
    rcases Nat.eq_zero_or_pos M with h0 | h0
    · subst h0; exact absurd (by cases b2 <;> simp [zi]) hY
    · exact h0
  clear hY
  have hQ : Sm (N / M) k := (hs.div M).mono (by omega)
  have hR : Sm (N % M) k := hs.mod.mono (by omega)
  have hI : Sm (N / M + 1) k := ((hs.div M).mono (show j ≤ k - 1 by omega)).le1 (by omega)
  have hD : Sm (M - N % M) k := (hs2.mono hk2).sub
  clear hs hs2
  by_cases hc : b = false ∨ N % M = 0
  · obtain ⟨e1, e2⟩ := dm_plain (b2 := b2) hM0 hc
    rw [e1, e2]
    clear e1 e2
    generalize hQ9 : N / M = Q at *
    generalize hR9 : N % M = R at *
    have HQ := Lib.hid hQ9; have HR := Lib.hid hR9; clear hQ9 hR9
    rcases Bool.eq_false_or_eq_true b with hbt | hbf
    · subst hbt
      rw [show (!(true == b2)) = !b2 by cases b2 <;> rfl]
      have hR0 : R = 0 := hc.resolve_left (by simp)
      have HR0 := Lib.hid hR0; clear hR0 hc
      go_enter Tryz.func115, Tryz.ntmps115
      go_wp2_with fail
      obtain ⟨hb, x_a, x_b, x_q, x_r⟩ := box4 w true A n c b2 A2 n2 c2 false none 0 0 false none 0 0
      generalize (((w.alloc (.cells #[.bool true, .slice A n c] 30)).alloc (.cells #[.bool b2, .slice A2 n2 c2] 30)).alloc (.cells #[.bool false, .slice none 0 0] 30)).alloc (.cells #[.bool false, .slice none 0 0] 30) = v1 at *
      replace h := h.go hb
      replace h2 := h2.go hb
      have q_a := x_a.al
      have q_b := x_b.al
      have q_q := x_q.al
      have q_r := x_r.al
      go_wp2_with fail
      with_reducible refine (DivMod_any _ _ _ _ _ _ _ _ _ h h2 (by omega) (by rw [HM.out]; exact hM0)).mono ?_
      rintro e v2 ⟨A1, n1, c1, A2_, n2_, c2_, rfl, g1, g2, hb1⟩
      obtain ⟨x_a, x_b, x_q, x_r⟩ := mv4 hb1 x_a x_b x_q x_r
      replace h := h.go hb1
      replace h2 := h2.go hb1
      replace hb := bthen hb hb1
      clear hb1
      replace q_a := x_a.al
      replace q_b := x_b.al
      replace q_q := x_q.al
      replace q_r := x_r.al
      rw [HN.out, HM.out, HQ.out] at g1
      rw [HN.out, HM.out, HR.out] at g2
      obtain rfl := rd_zero g2 HR0.out
      go_wp2_with fail
      with_reducible refine (signed_any (!b2) A1 n1 c1 Q _ k g1 hQ).mono ?_
      rintro e v3 ⟨rfl, z1, hb1⟩
      obtain ⟨x_a, x_b, x_q, x_r⟩ := mv4 hb1 x_a x_b x_q x_r
      replace h := h.go hb1
      replace h2 := h2.go hb1
      replace g1 := g1.go hb1
      replace g2 := g2.go hb1
      replace hb := bthen hb hb1
      clear hb1
      replace q_a := x_a.al
      replace q_b := x_b.al
      replace q_q := x_q.al
      replace q_r := x_r.al
      go_wp2_with fail
      with_reducible refine (signed_any false A2_ 0 c2_ R _ k g2 hR).mono ?_
      rintro e v4 ⟨rfl, z2, hb1⟩
      obtain ⟨x_a, x_b, x_q, x_r⟩ := mv4 hb1 x_a x_b x_q x_r
      replace h := h.go hb1
      replace h2 := h2.go hb1
      replace g1 := g1.go hb1
      replace g2 := g2.go hb1
      replace z1 := z1.keep hb1
      replace hb := bthen hb hb1
      clear hb1
      replace q_a := x_a.al
      replace q_b := x_b.al
      replace q_q := x_q.al
      replace q_r := x_r.al
      go_wp2
      replace x_a := x_a.aside (b' := (ngB (zi (!b2) Q))) (A' := A1) (n' := n1) (c' := c1) (g := w.heap.size + 1 + 1) (by omega)
      replace x_b := x_b.aside (b' := (ngB (zi (!b2) Q))) (A' := A1) (n' := n1) (c' := c1) (g := w.heap.size + 1 + 1) (by omega)
      replace x_r := x_r.aside (b' := (ngB (zi (!b2) Q))) (A' := A1) (n' := n1) (c' := c1) (g := w.heap.size + 1 + 1) (by omega)
      replace h := h.sput (b' := (ngB (zi (!b2) Q))) (A' := A1) (n' := n1) (c' := c1) x_q
      replace h2 := h2.sput (b' := (ngB (zi (!b2) Q))) (A' := A1) (n' := n1) (c' := c1) x_q
      replace g1 := g1.sput (b' := (ngB (zi (!b2) Q))) (A' := A1) (n' := n1) (c' := c1) x_q
      replace g2 := g2.sput (b' := (ngB (zi (!b2) Q))) (A' := A1) (n' := n1) (c' := c1) x_q
      replace z1 := z1.put (b' := (ngB (zi (!b2) Q))) (A' := A1) (n' := n1) (c' := c1) x_q
      replace z2 := z2.put (b' := (ngB (zi (!b2) Q))) (A' := A1) (n' := n1) (c' := c1) x_q
      replace hb := put_below (g := w.heap.size + 1 + 1) hb (by omega) (.bool (ngB (zi (!b2) Q))) (.slice A1 n1 c1)
      replace x_q := x_q.put (ngB (zi (!b2) Q)) A1 n1 c1
      clear q_a q_b q_q q_r
      generalize (v4.setCell ⟨w.heap.size + 1 + 1, 0, none⟩ (.bool (ngB (zi (!b2) Q)))).setCell ⟨w.heap.size + 1 + 1, 1, none⟩ (.slice A1 n1 c1) = v5 at *
      have q_a := x_a.al
      have q_b := x_b.al
      have q_q := x_q.al
      have q_r := x_r.al
      replace x_a := x_a.aside (b' := (ngB (zi false R))) (A' := A2_) (n' := 0) (c' := c2_) (g := w.heap.size + 1 + 1 + 1) (by omega)
      replace x_b := x_b.aside (b' := (ngB (zi false R))) (A' := A2_) (n' := 0) (c' := c2_) (g := w.heap.size + 1 + 1 + 1) (by omega)
      replace x_q := x_q.aside (b' := (ngB (zi false R))) (A' := A2_) (n' := 0) (c' := c2_) (g := w.heap.size + 1 + 1 + 1) (by omega)
      replace h := h.sput (b' := (ngB (zi false R))) (A' := A2_) (n' := 0) (c' := c2_) x_r
      replace h2 := h2.sput (b' := (ngB (zi false R))) (A' := A2_) (n' := 0) (c' := c2_) x_r
      replace g1 := g1.sput (b' := (ngB (zi false R))) (A' := A2_) (n' := 0) (c' := c2_) x_r
      replace g2 := g2.sput (b' := (ngB (zi false R))) (A' := A2_) (n' := 0) (c' := c2_) x_r
      replace z1 := z1.put (b' := (ngB (zi false R))) (A' := A2_) (n' := 0) (c' := c2_) x_r
      replace z2 := z2.put (b' := (ngB (zi false R))) (A' := A2_) (n' := 0) (c' := c2_) x_r
      replace hb := put_below (g := w.heap.size + 1 + 1 + 1) hb (by omega) (.bool (ngB (zi false R))) (.slice A2_ 0 c2_)
      replace x_r := x_r.put (ngB (zi false R)) A2_ 0 c2_
      clear q_a q_b q_q q_r
      generalize (v5.setCell ⟨w.heap.size + 1 + 1 + 1, 0, none⟩ (.bool (ngB (zi false R)))).setCell ⟨w.heap.size + 1 + 1 + 1, 1, none⟩ (.slice A2_ 0 c2_) = v6 at *
      have q_a := x_a.al
      have q_b := x_b.al
      have q_q := x_q.al
      have q_r := x_r.al
      refine bodyPost_ret (v := .tuple #[.agg #[.bool (ngB (zi (!b2) Q)), .slice A1 n1 c1], .agg #[.bool (ngB (zi false R)), .slice A2_ 0 c2_], .bool true]) (by simp [results, Tryz.results115, go_sem, q_q, q_r]) rfl ?_
      exact ⟨_, _, _, _, _, _, rfl, z1, z2, hb⟩
    · subst hbf
      rw [show (!(false == b2)) = b2 by cases b2 <;> rfl]
      clear hc
      go_enter Tryz.func115, Tryz.ntmps115
      go_wp2_with fail
      obtain ⟨hb, x_a, x_b, x_q, x_r⟩ := box4 w false A n c b2 A2 n2 c2 false none 0 0 false none 0 0
      generalize (((w.alloc (.cells #[.bool false, .slice A n c] 30)).alloc (.cells #[.bool b2, .slice A2 n2 c2] 30)).alloc (.cells #[.bool false, .slice none 0 0] 30)).alloc (.cells #[.bool false, .slice none 0 0] 30) = v1 at *
      replace h := h.go hb
      replace h2 := h2.go hb
      have q_a := x_a.al
      have q_b := x_b.al
      have q_q := x_q.al
      have q_r := x_r.al
      go_wp2_with fail
      with_reducible refine (DivMod_any _ _ _ _ _ _ _ _ _ h h2 (by omega) (by rw [HM.out]; exact hM0)).mono ?_
      rintro e v2 ⟨A1, n1, c1, A2_, n2_, c2_, rfl, g1, g2, hb1⟩
      obtain ⟨x_a, x_b, x_q, x_r⟩ := mv4 hb1 x_a x_b x_q x_r
      replace h := h.go hb1
      replace h2 := h2.go hb1
      replace hb := bthen hb hb1
      clear hb1
      replace q_a := x_a.al
      replace q_b := x_b.al
      replace q_q := x_q.al
      replace q_r := x_r.al
      rw [HN.out, HM.out, HQ.out] at g1
      rw [HN.out, HM.out, HR.out] at g2
      go_wp2_with fail
      with_reducible refine (signed_any b2 A1 n1 c1 Q _ k g1 hQ).mono ?_
      rintro e v3 ⟨rfl, z1, hb1⟩
      obtain ⟨x_a, x_b, x_q, x_r⟩ := mv4 hb1 x_a x_b x_q x_r
      replace h := h.go hb1
      replace h2 := h2.go hb1
      replace g1 := g1.go hb1
      replace g2 := g2.go hb1
      replace hb := bthen hb hb1
      clear hb1
      replace q_a := x_a.al
      replace q_b := x_b.al
      replace q_q := x_q.al
      replace q_r := x_r.al
      go_wp2_with fail
      with_reducible refine (signed_any false A2_ n2_ c2_ R _ k g2 hR).mono ?_
      rintro e v4 ⟨rfl, z2, hb1⟩
      obtain ⟨x_a, x_b, x_q, x_r⟩ := mv4 hb1 x_a x_b x_q x_r
      replace h := h.go hb1
      replace h2 := h2.go hb1
      replace g1 := g1.go hb1
      replace g2 := g2.go hb1
      replace z1 := z1.keep hb1
      replace hb := bthen hb hb1
      clear hb1
      replace q_a := x_a.al
      replace q_b := x_b.al
      replace q_q := x_q.al
      replace q_r := x_r.al
      go_wp2
      replace x_a := x_a.aside (b' := (ngB (zi b2 Q))) (A' := A1) (n' := n1) (c' := c1) (g := w.heap.size + 1 + 1) (by omega)
      replace x_b := x_b.aside (b' := (ngB (zi b2 Q))) (A' := A1) (n' := n1) (c' := c1) (g := w.heap.size + 1 + 1) (by omega)
      replace x_r := x_r.aside (b' := (ngB (zi b2 Q))) (A' := A1) (n' := n1) (c' := c1) (g := w.heap.size + 1 + 1) (by omega)
      replace h := h.sput (b' := (ngB (zi b2 Q))) (A' := A1) (n' := n1) (c' := c1) x_q
      replace h2 := h2.sput (b' := (ngB (zi b2 Q))) (A' := A1) (n' := n1) (c' := c1) x_q
      replace g1 := g1.sput (b' := (ngB (zi b2 Q))) (A' := A1) (n' := n1) (c' := c1) x_q
      replace g2 := g2.sput (b' := (ngB (zi b2 Q))) (A' := A1) (n' := n1) (c' := c1) x_q
      replace z1 := z1.put (b' := (ngB (zi b2 Q))) (A' := A1) (n' := n1) (c' := c1) x_q
      replace z2 := z2.put (b' := (ngB (zi b2 Q))) (A' := A1) (n' := n1) (c' := c1) x_q
      replace hb := put_below (g := w.heap.size + 1 + 1) hb (by omega) (.bool (ngB (zi b2 Q))) (.slice A1 n1 c1)
      replace x_q := x_q.put (ngB (zi b2 Q)) A1 n1 c1
      clear q_a q_b q_q q_r
      generalize (v4.setCell ⟨w.heap.size + 1 + 1, 0, none⟩ (.bool (ngB (zi b2 Q)))).setCell ⟨w.heap.size + 1 + 1, 1, none⟩ (.slice A1 n1 c1) = v5 at *
      have q_a := x_a.al
      have q_b := x_b.al
      have q_q := x_q.al
      have q_r := x_r.al
      replace x_a := x_a.aside (b' := (ngB (zi false R))) (A' := A2_) (n' := n2_) (c' := c2_) (g := w.heap.size + 1 + 1 + 1) (by omega)
      replace x_b := x_b.aside (b' := (ngB (zi false R))) (A' := A2_) (n' := n2_) (c' := c2_) (g := w.heap.size + 1 + 1 + 1) (by omega)
      replace x_q := x_q.aside (b' := (ngB (zi false R))) (A' := A2_) (n' := n2_) (c' := c2_) (g := w.heap.size + 1 + 1 + 1) (by omega)
      replace h := h.sput (b' := (ngB (zi false R))) (A' := A2_) (n' := n2_) (c' := c2_) x_r
      replace h2 := h2.sput (b' := (ngB (zi false R))) (A' := A2_) (n' := n2_) (c' := c2_) x_r
      replace g1 := g1.sput (b' := (ngB (zi false R))) (A' := A2_) (n' := n2_) (c' := c2_) x_r
      replace g2 := g2.sput (b' := (ngB (zi false R))) (A' := A2_) (n' := n2_) (c' := c2_) x_r
      replace z1 := z1.put (b' := (ngB (zi false R))) (A' := A2_) (n' := n2_) (c' := c2_) x_r
      replace z2 := z2.put (b' := (ngB (zi false R))) (A' := A2_) (n' := n2_) (c' := c2_) x_r
      replace hb := put_below (g := w.heap.size + 1 + 1 + 1) hb (by omega) (.bool (ngB (zi false R))) (.slice A2_ n2_ c2_)
      replace x_r := x_r.put (ngB (zi false R)) A2_ n2_ c2_
      clear q_a q_b q_q q_r
      generalize (v5.setCell ⟨w.heap.size + 1 + 1 + 1, 0, none⟩ (.bool (ngB (zi false R)))).setCell ⟨w.heap.size + 1 + 1 + 1, 1, none⟩ (.slice A2_ n2_ c2_) = v6 at *
      have q_a := x_a.al
      have q_b := x_b.al
      have q_q := x_q.al
      have q_r := x_r.al
      refine bodyPost_ret (v := .tuple #[.agg #[.bool (ngB (zi b2 Q)), .slice A1 n1 c1], .agg #[.bool (ngB (zi false R)), .slice A2_ n2_ c2_], .bool true]) (by simp [results, Tryz.results115, go_sem, q_q, q_r]) rfl ?_
      exact ⟨_, _, _, _, _, _, rfl, z1, z2, hb⟩
  · obtain rfl : b = true := by cases b <;> simp_all
    have hR0 : 0 < N % M := by omega
    have hlt := Nat.mod_lt N hM0
    obtain ⟨e1, e2⟩ := dm_more (b2 := b2) hM0 hR0
    rw [e1, e2, show (!(true == b2)) = !b2 by cases b2 <;> rfl]
    clear e1 e2 hc
    generalize hQ9 : N / M = Q at *
    generalize hR9 : N % M = R at *
    have HQ := Lib.hid hQ9; have HR := Lib.hid hR9; clear hQ9 hR9
    go_enter Tryz.func115, Tryz.ntmps115
    go_wp2_with fail
    obtain ⟨hb, x_a, x_b, x_q, x_r⟩ := box4 w true A n c b2 A2 n2 c2 false none 0 0 false none 0 0
    generalize (((w.alloc (.cells #[.bool true, .slice A n c] 30)).alloc (.cells #[.bool b2, .slice A2 n2 c2] 30)).alloc (.cells #[.bool false, .slice none 0 0] 30)).alloc (.cells #[.bool false, .slice none 0 0] 30) = v1 at *
    replace h := h.go hb
    replace h2 := h2.go hb
    have q_a := x_a.al
    have q_b := x_b.al
    have q_q := x_q.al
    have q_r := x_r.al
    go_wp2_with fail
    with_reducible refine (DivMod_any _ _ _ _ _ _ _ _ _ h h2 (by omega) (by rw [HM.out]; exact hM0)).mono ?_
    rintro e v2 ⟨A1, n1, c1, A2_, n2_, c2_, rfl, g1, g2, hb1⟩
    obtain ⟨x_a, x_b, x_q, x_r⟩ := mv4 hb1 x_a x_b x_q x_r
    replace h := h.go hb1
    replace h2 := h2.go hb1
    replace hb := bthen hb hb1
    clear hb1
    replace q_a := x_a.al
    replace q_b := x_b.al
    replace q_q := x_q.al
    replace q_r := x_r.al
    rw [HN.out, HM.out, HQ.out] at g1
    rw [HN.out, HM.out, HR.out] at g2
    have hp := rd_pos g2 hR0
    have z1n := g1.small hQ
    have z2n := g2.small hR
    go_wp2_with fail
    with_reducible refine (inc_any g1 (by omega)).mono ?_
    rintro e v3 ⟨A1, n1, c1, rfl, g1, hb1⟩
    obtain ⟨x_a, x_b, x_q, x_r⟩ := mv4 hb1 x_a x_b x_q x_r
    replace h := h.go hb1
    replace h2 := h2.go hb1
    skip
    replace g2 := g2.go hb1
    replace hb := bthen hb hb1
    clear hb1
    replace q_a := x_a.al
    replace q_b := x_b.al
    replace q_q := x_q.al
    replace q_r := x_r.al
    rw [vl_dg Wd2] at g1
    have hr2 := g2
    go_wp2_with fail
    with_reducible refine (Sub_any _ _ _ _ _ _ _ _ _ h2 g2 (by omega) (by rw [HM.out, vl_dg Wd2]; omega)).mono ?_
    rintro e v4 ⟨A2_, n2_, c2_, rfl, g3, hb1⟩
    obtain ⟨x_a, x_b, x_q, x_r⟩ := mv4 hb1 x_a x_b x_q x_r
    replace h := h.go hb1
    replace h2 := h2.go hb1
    replace g1 := g1.go hb1
    replace g2 := g2.go hb1
    replace hb := bthen hb hb1
    clear hb1
    replace q_a := x_a.al
    replace q_b := x_b.al
    replace q_q := x_q.al
    replace q_r := x_r.al
    rw [HM.out, vl_dg Wd2] at g3
    clear hr2
    clear g2
    have g2 := g3
    clear g3
    go_wp2_with fail
    with_reducible refine (signed_any (!b2) A1 n1 c1 (Q + 1) _ k g1 hI).mono ?_
    rintro e v5 ⟨rfl, z1, hb1⟩
    obtain ⟨x_a, x_b, x_q, x_r⟩ := mv4 hb1 x_a x_b x_q x_r
    replace h := h.go hb1
    replace h2 := h2.go hb1
    replace g1 := g1.go hb1
    replace g2 := g2.go hb1
    replace hb := bthen hb hb1
    clear hb1
    replace q_a := x_a.al
    replace q_b := x_b.al
    replace q_q := x_q.al
    replace q_r := x_r.al
    go_wp2_with fail
    with_reducible refine (signed_any false A2_ n2_ c2_ (M - R) _ k g2 hD).mono ?_
    rintro e v6 ⟨rfl, z2, hb1⟩
    obtain ⟨x_a, x_b, x_q, x_r⟩ := mv4 hb1 x_a x_b x_q x_r
    replace h := h.go hb1
    replace h2 := h2.go hb1
    replace g1 := g1.go hb1
    replace g2 := g2.go hb1
    replace z1 := z1.keep hb1
    replace hb := bthen hb hb1
    clear hb1
    replace q_a := x_a.al
    replace q_b := x_b.al
    replace q_q := x_q.al
    replace q_r := x_r.al
    go_wp2
    replace x_a := x_a.aside (b' := (ngB (zi (!b2) (Q + 1)))) (A' := A1) (n' := n1) (c' := c1) (g := w.heap.size + 1 + 1) (by omega)
    replace x_b := x_b.aside (b' := (ngB (zi (!b2) (Q + 1)))) (A' := A1) (n' := n1) (c' := c1) (g := w.heap.size + 1 + 1) (by omega)
    replace x_r := x_r.aside (b' := (ngB (zi (!b2) (Q + 1)))) (A' := A1) (n' := n1) (c' := c1) (g := w.heap.size + 1 + 1) (by omega)
    replace h := h.sput (b' := (ngB (zi (!b2) (Q + 1)))) (A' := A1) (n' := n1) (c' := c1) x_q
    replace h2 := h2.sput (b' := (ngB (zi (!b2) (Q + 1)))) (A' := A1) (n' := n1) (c' := c1) x_q
    replace g1 := g1.sput (b' := (ngB (zi (!b2) (Q + 1)))) (A' := A1) (n' := n1) (c' := c1) x_q
    replace g2 := g2.sput (b' := (ngB (zi (!b2) (Q + 1)))) (A' := A1) (n' := n1) (c' := c1) x_q
    replace z1 := z1.put (b' := (ngB (zi (!b2) (Q + 1)))) (A' := A1) (n' := n1) (c' := c1) x_q
    replace z2 := z2.put (b' := (ngB (zi (!b2) (Q + 1)))) (A' := A1) (n' := n1) (c' := c1) x_q
    replace hb := put_below (g := w.heap.size + 1 + 1) hb (by omega) (.bool (ngB (zi (!b2) (Q + 1)))) (.slice A1 n1 c1)
    replace x_q := x_q.put (ngB (zi (!b2) (Q + 1))) A1 n1 c1
    clear q_a q_b q_q q_r
    generalize (v6.setCell ⟨w.heap.size + 1 + 1, 0, none⟩ (.bool (ngB (zi (!b2) (Q + 1))))).setCell ⟨w.heap.size + 1 + 1, 1, none⟩ (.slice A1 n1 c1) = v7 at *
    have q_a := x_a.al
    have q_b := x_b.al
    have q_q := x_q.al
    have q_r := x_r.al
    replace x_a := x_a.aside (b' := (ngB (zi false (M - R)))) (A' := A2_) (n' := n2_) (c' := c2_) (g := w.heap.size + 1 + 1 + 1) (by omega)
    replace x_b := x_b.aside (b' := (ngB (zi false (M - R)))) (A' := A2_) (n' := n2_) (c' := c2_) (g := w.heap.size + 1 + 1 + 1) (by omega)
    replace x_q := x_q.aside (b' := (ngB (zi false (M - R)))) (A' := A2_) (n' := n2_) (c' := c2_) (g := w.heap.size + 1 + 1 + 1) (by omega)
    replace h := h.sput (b' := (ngB (zi false (M - R)))) (A' := A2_) (n' := n2_) (c' := c2_) x_r
    replace h2 := h2.sput (b' := (ngB (zi false (M - R)))) (A' := A2_) (n' := n2_) (c' := c2_) x_r
    replace g1 := g1.sput (b' := (ngB (zi false (M - R)))) (A' := A2_) (n' := n2_) (c' := c2_) x_r
    replace g2 := g2.sput (b' := (ngB (zi false (M - R)))) (A' := A2_) (n' := n2_) (c' := c2_) x_r
    replace z1 := z1.put (b' := (ngB (zi false (M - R)))) (A' := A2_) (n' := n2_) (c' := c2_) x_r
    replace z2 := z2.put (b' := (ngB (zi false (M - R)))) (A' := A2_) (n' := n2_) (c' := c2_) x_r
    replace hb := put_below (g := w.heap.size + 1 + 1 + 1) hb (by omega) (.bool (ngB (zi false (M - R)))) (.slice A2_ n2_ c2_)
    replace x_r := x_r.put (ngB (zi false (M - R))) A2_ n2_ c2_
    clear q_a q_b q_q q_r
    generalize (v7.setCell ⟨w.heap.size + 1 + 1 + 1, 0, none⟩ (.bool (ngB (zi false (M - R))))).setCell ⟨w.heap.size + 1 + 1 + 1, 1, none⟩ (.slice A2_ n2_ c2_) = v8 at *
    have q_a := x_a.al
    have q_b := x_b.al
    have q_q := x_q.al
    have q_r := x_r.al
    refine bodyPost_ret (v := .tuple #[.agg #[.bool (ngB (zi (!b2) (Q + 1))), .slice A1 n1 c1], .agg #[.bool (ngB (zi false (M - R))), .slice A2_ n2_ c2_], .bool true]) (by simp [results, Tryz.results115, go_sem, q_q, q_r]) rfl ?_
    exact ⟨_, _, _, _, _, _, rfl, z1, z2, hb⟩
end
end Go.Proofs.YtbpamkpclofnbaaGreat
namespace Go.Proofs.YtbpamkpclofnbaaGreat
section
set_option maxRecDepth 100000
open Go.RowKit
set_option linter.unusedVariables false

theorem lay1s (w : World) (x : Int) (hx : Lm x) {g : Nat} (hg : w.heap.size = g) : Rd (w.alloc (.cells #[.int .u64 x] 69)) (w.alloc (.cells #[.int .u64 x] 69)).heap.size (some ⟨g, 0, none⟩) 1 1 [x] := hg ▸ lay1 w x hx
theorem Si.of_i64 {n : Int} (h0 : -9223372036854775808 ≤ n) (h1 : n ≤ 9223372036854775807) : Si n 1 := by
  unfold Si Sm; rw [Nat.pow_one, Wd_eq]; omega
theorem u64_neg {m : Int} (h0 : 0 < m) (h1 : m ≤ 9223372036854775808) : IntKind.u64.wrap (-m) = 18446744073709551616 - m ∧ IntKind.u64.wrap (-(18446744073709551616 - m)) = m := by
  constructor <;> (rw [wrap_u64]; omega)
set_option maxRecDepth 100000 in
set_option maxHeartbeats 2000000 in
theorem ZOf_any (n : Int) {w : World} (h0 : -9223372036854775808 ≤ n) (h1 : n ≤ 9223372036854775807) :
    Calls Tryz.prog 105 #[.int .i64 n] w (OutZ w n 1) := by
  have hsi := Si.of_i64 h0 h1
  rcases Int.lt_or_le n 0 with hlt | hge
  · obtain ⟨m, rfl⟩ : ∃ m : Int, n = -m := ⟨-n, by omega⟩
    obtain ⟨e1, e2⟩ := u64_neg (m := m) (by omega) (by omega)
    have hlt0 : decide (-m < 0) = true := by simp; omega
    have hm : Lm m := lm_small (by omega) (by omega)
    have hv : -m = zi true m.toNat := by rw [zi_true]; omega
    have hs : Sm m.toNat 1 := by unfold Sm; rw [Nat.pow_one, Wd_eq]; omega
    rw [show OutZ w (-m) 1 = OutZ w (zi true m.toNat) 1 by rw [← hv]]
    clear hv hsi
    go_enter Tryz.func105, Tryz.ntmps105
    go_wp2_with fail
    obtain ⟨hb, x_r⟩ := box1 w false none 0 0
    have hsz : (w.alloc (.cells #[.bool false, .slice none 0 0] 30)).heap.size = w.heap.size + 1 := by simp
    generalize w.alloc (.cells #[.bool false, .slice none 0 0] 30) = v1 at *
    have HSZ := Lib.hid hsz; clear hsz
    have q_r := x_r.al
    have hb1 := below_alloc v1 (.cells #[.int .u64 m] 69)
    replace x_r := x_r.keep hb1
    replace hb := bthen hb hb1
    clear hb1
    replace q_r := x_r.al
    have u1 := lay1s v1 m hm HSZ.out
    clear q_r
    generalize v1.alloc (.cells #[.int .u64 m] 69) = v2 at *
    have q_r := x_r.al
    skip
    with_reducible refine (Norm_any _ _ _ _ _ _ u1 (Nat.le_refl _)).mono ?_
    rintro e v3 ⟨A1, n1, c1, rfl, g1, hb1⟩
    replace x_r := x_r.keep hb1
    replace u1 := u1.go hb1
    replace hb := bthen hb hb1
    clear hb1
    replace q_r := x_r.al
    rw [vl_one] at g1
    go_wp2_with fail
    with_reducible refine (signed_any true A1 n1 c1 m.toNat _ 1 g1 hs).mono ?_
    rintro e v4 ⟨rfl, z1, hb1⟩
    replace x_r := x_r.keep hb1
    replace u1 := u1.go hb1
    replace g1 := g1.go hb1
    replace hb := bthen hb hb1
    clear hb1
    replace q_r := x_r.al
    go_wp2
    replace u1 := u1.sput (b' := (ngB (zi true m.toNat))) (A' := A1) (n' := n1) (c' := c1) x_r
    replace g1 := g1.sput (b' := (ngB (zi true m.toNat))) (A' := A1) (n' := n1) (c' := c1) x_r
    replace z1 := z1.put (b' := (ngB (zi true m.toNat))) (A' := A1) (n' := n1) (c' := c1) x_r
    replace hb := put_below (g := w.heap.size) hb (by omega) (.bool (ngB (zi true m.toNat))) (.slice A1 n1 c1)
    replace x_r := x_r.put (ngB (zi true m.toNat)) A1 n1 c1
    clear q_r
    generalize (v4.setCell ⟨w.heap.size, 0, none⟩ (.bool (ngB (zi true m.toNat)))).setCell ⟨w.heap.size, 1, none⟩ (.slice A1 n1 c1) = v5 at *
    have q_r := x_r.al
    refine bodyPost_ret (v := .agg #[.bool (ngB (zi true m.toNat)), .slice A1 n1 c1]) (by simp [results, Tryz.results105, go_sem, q_r]) rfl ?_
    exact ⟨_, _, _, rfl, z1, hb⟩
  · have e1 : IntKind.u64.wrap n = n := by rw [wrap_u64]; omega
    have hlt0 : decide (n < 0) = false := by simp; omega
    have hm : Lm n := lm_small (by omega) (by omega)
    have hv : n = zi false n.toNat := by rw [zi_false]; omega
    have hs : Sm n.toNat 1 := by unfold Sm; rw [Nat.pow_one, Wd_eq]; omega
    rw [show OutZ w n 1 = OutZ w (zi false n.toNat) 1 by rw [← hv]]
    clear hv hsi
    go_enter Tryz.func105, Tryz.ntmps105
    go_wp2_with fail
    obtain ⟨hb, x_r⟩ := box1 w false none 0 0
    have hsz : (w.alloc (.cells #[.bool false, .slice none 0 0] 30)).heap.size = w.heap.size + 1 := by simp
    generalize w.alloc (.cells #[.bool false, .slice none 0 0] 30) = v1 at *
    have HSZ := Lib.hid hsz; clear hsz
    have q_r := x_r.al
    have hb1 := below_alloc v1 (.cells #[.int .u64 n] 69)
    replace x_r := x_r.keep hb1
    replace hb := bthen hb hb1
    clear hb1
    replace q_r := x_r.al
    have u1 := lay1s v1 n hm HSZ.out
    clear q_r
    generalize v1.alloc (.cells #[.int .u64 n] 69) = v2 at *
    have q_r := x_r.al
    skip
    with_reducible refine (Norm_any _ _ _ _ _ _ u1 (Nat.le_refl _)).mono ?_
    rintro e v3 ⟨A1, n1, c1, rfl, g1, hb1⟩
    replace x_r := x_r.keep hb1
    replace u1 := u1.go hb1
    replace hb := bthen hb hb1
    clear hb1
    replace q_r := x_r.al
    rw [vl_one] at g1
    go_wp2_with fail
    with_reducible refine (signed_any false A1 n1 c1 n.toNat _ 1 g1 hs).mono ?_
    rintro e v4 ⟨rfl, z1, hb1⟩
    replace x_r := x_r.keep hb1
    replace u1 := u1.go hb1
    replace g1 := g1.go hb1
    replace hb := bthen hb hb1
    clear hb1
    replace q_r := x_r.al
    go_wp2
    replace u1 := u1.sput (b' := (ngB (zi false n.toNat))) (A' := A1) (n' := n1) (c' := c1) x_r
    replace g1 := g1.sput (b' := (ngB (zi false n.toNat))) (A' := A1) (n' := n1) (c' := c1) x_r
    replace z1 := z1.put (b' := (ngB (zi false n.toNat))) (A' := A1) (n' := n1) (c' := c1) x_r
    replace hb := put_below (g := w.heap.size) hb (by omega) (.bool (ngB (zi false n.toNat))) (.slice A1 n1 c1)
    replace x_r := x_r.put (ngB (zi false n.toNat)) A1 n1 c1
    clear q_r
    generalize (v4.setCell ⟨w.heap.size, 0, none⟩ (.bool (ngB (zi false n.toNat)))).setCell ⟨w.heap.size, 1, none⟩ (.slice A1 n1 c1) = v5 at *
    have q_r := x_r.al
    refine bodyPost_ret (v := .agg #[.bool (ngB (zi false n.toNat)), .slice A1 n1 c1]) (by simp [results, Tryz.results105, go_sem, q_r]) rfl ?_
    exact ⟨_, _, _, rfl, z1, hb⟩
end
end Go.Proofs.YtbpamkpclofnbaaGreat
namespace Go.Proofs.YtbpamkpclofnbaaGreat
section
set_option maxRecDepth 100000
open Go.RowKit
set_option linter.unusedVariables false

/-- Is it an int64? -/
def smB (X : Int) : Bool := decide (-9223372036854775808 ≤ X ∧ X ≤ 9223372036854775807)
def smI (X : Int) : Int := if smB X then X else 0
theorem smB_no {X : Int} (h : ¬ (-9223372036854775808 ≤ X ∧ X ≤ 9223372036854775807)) : smB X = false ∧ smI X = 0 := by
  have : smB X = false := by unfold smB; exact decide_eq_false h
  exact ⟨this, by unfold smI; rw [this]; rfl⟩
theorem smB_yes {X : Int} (h : -9223372036854775808 ≤ X ∧ X ≤ 9223372036854775807) : smB X = true ∧ smI X = X := by
  have : smB X = true := by unfold smB; exact decide_eq_true h
  exact ⟨this, by unfold smI; rw [this]; rfl⟩
def SmPost (w : World) (X : Int) (e : Ending) (w' : World) : Prop := e = .returned (.tuple #[.int .i64 (smI X), .bool (smB X)]) ∧ Below w.heap.size w w'
theorem SmPost.no {w w' : World} {X : Int} (h : ¬ (-9223372036854775808 ≤ X ∧ X ≤ 9223372036854775807)) (hb : Below w.heap.size w w') : SmPost w X (.returned (.tuple #[.int .i64 0, .bool false])) w' := by
  obtain ⟨a, b⟩ := smB_no h; exact ⟨by rw [a, b], hb⟩
theorem SmPost.yes {w w' : World} {X y : Int} (h : -9223372036854775808 ≤ X ∧ X ≤ 9223372036854775807) (hy : y = X) (hb : Below w.heap.size w w') : SmPost w X (.returned (.tuple #[.int .i64 y, .bool true])) w' := by
  obtain ⟨a, b⟩ := smB_yes h; exact ⟨by rw [a, b, hy], hb⟩
theorem i64_keep {n : Int} (h0 : -9223372036854775808 ≤ n) (h1 : n ≤ 9223372036854775807) : IntKind.i64.wrap n = n := IntWalk.i64_in _ ⟨h0, h1⟩
end
end Go.Proofs.YtbpamkpclofnbaaGreat
