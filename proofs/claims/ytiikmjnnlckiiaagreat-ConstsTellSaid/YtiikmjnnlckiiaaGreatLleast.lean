/-
 the document's answers for ball: least, greatest.
-/
import Derived.Test.YtiikmjnnlckiiaaGreatLref0
namespace Go.Proofs.YtiikmjnnlckiiaaGreat
open Go.RowKit
set_option linter.unusedVariables false

/-- Block g begins with 2 integers, one behind the other. -/
def S2x (w : World) (g : Nat) (bb0 : Bool) (AA0 : Option Addr) (nn0 cc0 : Nat) (bb1 : Bool) (AA1 : Option Addr) (nn1 cc1 : Nat) : Prop := ∃ cs : Array Value, w.heap[g]? = some (.cells cs 25 (0, 0)) ∧ cs[0]? = some (.bool bb0) ∧ cs[1]? = some (.slice AA0 nn0 cc0) ∧ cs[2]? = some (.bool bb1) ∧ cs[3]? = some (.slice AA1 nn1 cc1)
section
variable {w w' : World} {g h : Nat} {bb0 : Bool} {AA0 : Option Addr} {nn0 cc0 : Nat} {bb1 : Bool} {AA1 : Option Addr} {nn1 cc1 : Nat}
theorem S2x.lt (h : S2x w g bb0 AA0 nn0 cc0 bb1 AA1 nn1 cc1) : g < w.heap.size := by
 obtain ⟨cs, h, _⟩ := h
 exact (Array.getElem?_eq_some_iff.1 h).1
theorem S2x.c0 (h : S2x w g bb0 AA0 nn0 cc0 bb1 AA1 nn1 cc1) : w.cell? ⟨g, 0, none⟩ = some (.bool bb0) := by
 obtain ⟨cs, h, hc⟩ := h
 rw [cell_of_row w g 0 _ _ (0, 0) h]
 exact hc.1
theorem S2x.c1 (h : S2x w g bb0 AA0 nn0 cc0 bb1 AA1 nn1 cc1) : w.cell? ⟨g, 1, none⟩ = some (.slice AA0 nn0 cc0) := by
 obtain ⟨cs, h, hc⟩ := h
 rw [cell_of_row w g 1 _ _ (0, 0) h]
 exact hc.2.1
theorem S2x.c2 (h : S2x w g bb0 AA0 nn0 cc0 bb1 AA1 nn1 cc1) : w.cell? ⟨g, 2, none⟩ = some (.bool bb1) := by
 obtain ⟨cs, h, hc⟩ := h
 rw [cell_of_row w g 2 _ _ (0, 0) h]
 exact hc.2.2.1
theorem S2x.c3 (h : S2x w g bb0 AA0 nn0 cc0 bb1 AA1 nn1 cc1) : w.cell? ⟨g, 3, none⟩ = some (.slice AA1 nn1 cc1) := by
 obtain ⟨cs, h, hc⟩ := h
 rw [cell_of_row w g 3 _ _ (0, 0) h]
 exact hc.2.2.2
theorem S2x.fr (h : S2x w g bb0 AA0 nn0 cc0 bb1 AA1 nn1 cc1) (i : Nat) : w.frozen? ⟨g, i, none⟩ = false := by
 obtain ⟨cs, h, hc⟩ := h
 simp [World.frozen?, h]
theorem S2x.al (h : S2x w g bb0 AA0 nn0 cc0 bb1 AA1 nn1 cc1) : w.cell? ⟨g, 0, none⟩ = some (.bool bb0) ∧ w.frozen? ⟨g, 0, none⟩ = false ∧ w.cell? ⟨g, 1, none⟩ = some (.slice AA0 nn0 cc0) ∧ w.frozen? ⟨g, 1, none⟩ = false ∧ w.cell? ⟨g, 2, none⟩ = some (.bool bb1) ∧ w.frozen? ⟨g, 2, none⟩ = false ∧ w.cell? ⟨g, 3, none⟩ = some (.slice AA1 nn1 cc1) ∧ w.frozen? ⟨g, 3, none⟩ = false := ⟨h.c0, h.fr 0, h.c1, h.fr 1, h.c2, h.fr 2, h.c3, h.fr 3⟩
theorem S2x.new (w : World) (bb0 : Bool) (AA0 : Option Addr) (nn0 cc0 : Nat) (bb1 : Bool) (AA1 : Option Addr) (nn1 cc1 : Nat) : S2x (w.alloc (.cells #[.bool bb0, .slice AA0 nn0 cc0, .bool bb1, .slice AA1 nn1 cc1] 25)) w.heap.size bb0 AA0 nn0 cc0 bb1 AA1 nn1 cc1 := ⟨_, heap_alloc_new w _, rfl, rfl, rfl, rfl⟩
theorem S2x.to {g' : Nat} (h : S2x w g bb0 AA0 nn0 cc0 bb1 AA1 nn1 cc1) (hb : w'.heap[g]? = w.heap[g]?) : S2x w' g bb0 AA0 nn0 cc0 bb1 AA1 nn1 cc1 := by
 obtain ⟨cs, h, hc⟩ := h
 exact ⟨cs, hb.trans h, hc⟩
theorem S2x.alloc (h : S2x w g bb0 AA0 nn0 cc0 bb1 AA1 nn1 cc1) (o : Obj) : S2x (w.alloc o) g bb0 AA0 nn0 cc0 bb1 AA1 nn1 cc1 := h.to (g' := 0) (Below.heap_alloc w o g h.lt)
theorem S2x.drw (h : S2x w g bb0 AA0 nn0 cc0 bb1 AA1 nn1 cc1) : S2x w.drew g bb0 AA0 nn0 cc0 bb1 AA1 nn1 cc1 := h
theorem S2x.keep (h : S2x w g bb0 AA0 nn0 cc0 bb1 AA1 nn1 cc1) (hb : Below w.heap.size w w') : S2x w' g bb0 AA0 nn0 cc0 bb1 AA1 nn1 cc1 := h.to (g' := 0) (hb.block g h.lt)
instance S2x.mv {v w : World} : Mv (S2x v g bb0 AA0 nn0 cc0 bb1 AA1 nn1 cc1) v w (S2x w g bb0 AA0 nn0 cc0 bb1 AA1 nn1 cc1) := ⟨fun h hb => S2x.keep h hb⟩
theorem S2x.far (h : S2x w g bb0 AA0 nn0 cc0 bb1 AA1 nn1 cc1) {z : Addr} (hp : g ≠ z.block) (u : Value) : S2x (w.setCell z u) g bb0 AA0 nn0 cc0 bb1 AA1 nn1 cc1 := h.to (g' := 0) (Below.heap_setCell w z u g hp)
end
section
variable {w : World} {g h : Nat} {bb0 : Bool} {AA0 : Option Addr} {nn0 cc0 : Nat} {bb1 : Bool} {AA1 : Option Addr} {nn1 cc1 : Nat} {b' p' : Bool} {A' B' : Option Addr} {n' c' m' d' : Nat} {e' : Int}
theorem S2x.aside (x : S2x w h bb0 AA0 nn0 cc0 bb1 AA1 nn1 cc1) (hg : h ≠ g) : S2x ((w.setCell ⟨g, 0, none⟩ (.bool b')).setCell ⟨g, 1, none⟩ (.slice A' n' c')) h bb0 AA0 nn0 cc0 bb1 AA1 nn1 cc1 := (x.far hg _).far hg _
theorem S2x.asideL (x : S2x w h bb0 AA0 nn0 cc0 bb1 AA1 nn1 cc1) (hg : h ≠ g) : S2x (((((w.setCell ⟨g, 0, none⟩ (.bool b')).setCell ⟨g, 1, none⟩ (.slice A' n' c')).setCell ⟨g, 2, none⟩ (.bool p')).setCell ⟨g, 3, none⟩ (.slice B' m' d')).setCell ⟨g, 4, none⟩ (.int .i64 e')) h bb0 AA0 nn0 cc0 bb1 AA1 nn1 cc1 := ((((x.far hg _).far hg _).far hg _).far hg _).far hg _
end
section
variable {w w' : World} {g h : Nat} {bb0 : Bool} {AA0 : Option Addr} {nn0 cc0 : Nat} {bb1 : Bool} {AA1 : Option Addr} {nn1 cc1 : Nat} {bb2 : Bool} {AA2 : Option Addr} {nn2 cc2 : Nat} {bb3 : Bool} {AA3 : Option Addr} {nn3 cc3 : Nat}
end
section
variable {w : World} {g h : Nat} {bb0 : Bool} {AA0 : Option Addr} {nn0 cc0 : Nat} {bb1 : Bool} {AA1 : Option Addr} {nn1 cc1 : Nat} {bb2 : Bool} {AA2 : Option Addr} {nn2 cc2 : Nat} {bb3 : Bool} {AA3 : Option Addr} {nn3 cc3 : Nat} {b' p' : Bool} {A' B' : Option Addr} {n' c' m' d' : Nat} {e' : Int}
end
def minK (E0 E1 E2 E3 : Int) : Nat → Int
 | 0 => 0
 | 1 => E0
 | 2 => min E0 E1
 | 3 => min (min E0 E1) (E2)
 | _ => min (min (min E0 E1) (E2)) (E3)
def maxK (E0 E1 E2 E3 : Int) : Nat → Int
 | 0 => 0
 | 1 => E0
 | 2 => max E0 E1
 | 3 => max (max E0 E1) (E2)
 | _ => max (max (max E0 E1) (E2)) (E3)
/-- What the loop over the integers keeps. -/
def LsRel (w : World) (M : Int) (K : Nat) (wr : World) : Prop := Below w.heap.size w wr ∧ Bx wr w.heap.size false none 0 0 ∧ ∃ A n c, Bx wr (w.heap.size + 1) (ngB M) A n c ∧ Zn wr A n c M K

set_option maxRecDepth 100000 in
set_option maxHeartbeats 8000000 in
theorem least2_any {A0 : Option Addr} {n0 c0 : Nat} {E0 : Int} {A1 : Option Addr} {n1 c1 : Nat} {E1 : Int} {g K : Nat} {w : World} (x_s : S2x w g (ngB E0) A0 n0 c0 (ngB E1) A1 n1 c1) (e0 : Zn w A0 n0 c0 E0 K) (e1 : Zn w A1 n1 c1 E1 K) (hK : K ≤ 10000) :
  Calls Tryz.prog 40 #[.slice (some ⟨g, 0, none⟩) 2 2] w (OutZ w (min E0 E1) K) := by
 have hgl := x_s.lt
 have HX := Lib.hid x_s; have HE0 := Lib.hid e0; have HE1 := Lib.hid e1
 obtain ⟨M0, hM0⟩ : ∃ M, min E0 E1 = M := ⟨_, rfl⟩
 rw [hM0]
 have HM0 := Lib.hid hM0; clear hM0
 have q_s := x_s.al
 have yy := (x_s.alloc (.cells #[.bool false, .slice none 0 0] 25)).al
 obtain ⟨qy0, fy0, qy1, fy1, qy2, fy2, qy3, fy3⟩ := yy
 go_enter Tryz.func40, Tryz.ntmps40
 go_wp2_with fail
 clear q_s qy0 fy0 qy1 fy1 qy2 fy2 qy3 fy3
 have x_r : Bx (w.alloc (.cells #[.bool false, .slice none 0 0] 25)) (w.heap.size) false none 0 0 := by have := Bx.new w false none 0 0; simpa using this
 replace x_r := x_r.alloc (.cells #[.bool (ngB E0), .slice A0 n0 c0] 25)
 have x_o : Bx ((w.alloc (.cells #[.bool false, .slice none 0 0] 25)).alloc (.cells #[.bool (ngB E0), .slice A0 n0 c0] 25)) (w.heap.size + 1) (ngB E0) A0 n0 c0 := by have := Bx.new (w.alloc (.cells #[.bool false, .slice none 0 0] 25)) (ngB E0) A0 n0 c0; simpa using this
 have hb : Below w.heap.size w ((w.alloc (.cells #[.bool false, .slice none 0 0] 25)).alloc (.cells #[.bool (ngB E0), .slice A0 n0 c0] 25)) := (Below.alloc (Below.alloc (Below.refl w.heap.size w) (by simp) (.cells #[.bool false, .slice none 0 0] 25)) (by simp) (.cells #[.bool (ngB E0), .slice A0 n0 c0] 25))
 generalize (w.alloc (.cells #[.bool false, .slice none 0 0] 25)).alloc (.cells #[.bool (ngB E0), .slice A0 n0 c0] 25) = v1 at *
 obtain ⟨x_s, e0, e1⟩ := mv3 hb x_s e0 e1
 have q_r := x_r.al
 have q_o := x_o.al
 have hrel0 : LsRel w (minK E0 E1 0 0 1) K v1 := ⟨hb, x_r, _, _, _, x_o, e0⟩
 clear hb x_r x_o x_s e0 e1
 clear q_r q_o
 go_loopw [4] (fun iv wr => ∃ k : Nat, 1 ≤ k ∧ k ≤ 2 ∧ iv = .int .i64 k ∧ LsRel w (minK E0 E1 0 0 k) K wr) (fun iv _ => 2 - (intOf iv).toNat)
 case atStart => exact ⟨1, by omega, by omega, rfl, hrel0⟩
 case round =>
  clear hrel0
  obtain ⟨k, hk1, hk, rfl, hb, x_r, Ao, no_, co, x_o, zo⟩ := hrel
  have x_s := HX.out.keep hb; have e0 := HE0.out.keep hb; have e1 := HE1.out.keep hb
  rcases (show k = 1 ∨ k = 2 by omega) with rfl | rfl
  ·obtain ⟨M, hM⟩ : ∃ M, minK E0 E1 0 0 1 = M := ⟨_, rfl⟩
   rw [hM] at zo x_o
   have hM2 : minK E0 E1 0 0 2 = min M E1 := by rw [← hM]; rfl
   clear hM
   have i1 := sgnI_lt0 (X := E1 - M); have i2 := sgnI_gt0 (X := E1 - M)
   obtain ⟨C, hC⟩ : ∃ C, sgnI (E1 - M) = C := ⟨_, rfl⟩
   rw [hC] at i1 i2
   have HC := Lib.hid hC; clear hC
   rcases (show (C < 0 ∧ minK E0 E1 0 0 2 = E1) ∨ (0 ≤ C ∧ minK E0 E1 0 0 2 = M) by rw [hM2]; omega) with ⟨d1, m1⟩ | ⟨d1, m1⟩
   ·have HM1 := Lib.hid m1; clear m1 i1 i2 hM2
    have q_s := x_s.al
    have q_o := x_o.al
    go_wp2_with fail
    go_region_held3 (fun w' => w'.cell? ⟨g, 0, none⟩ = some (.bool (ngB E0)) ∧ w'.cell? ⟨g, 1, none⟩ = some (.slice A0 n0 c0) ∧ w'.cell? ⟨g, 2, none⟩ = some (.bool (ngB E1)) ∧ w'.cell? ⟨g, 3, none⟩ = some (.slice A1 n1 c1) ∧ w'.cell? ⟨w.heap.size + 1, 0, none⟩ = some (.bool (ngB M)) ∧ w'.cell? ⟨w.heap.size + 1, 1, none⟩ = some (.slice Ao no_ co))
     (first | (with_reducible exact ⟨x_s.c0, x_s.c1, x_s.c2, x_s.c3, x_o.c0, x_o.c1⟩) | (with_reducible exact ⟨(x_s.aside (by omega)).c0, (x_s.aside (by omega)).c1, (x_s.aside (by omega)).c2, (x_s.aside (by omega)).c3, (x_o.aside (by omega)).c0, (x_o.aside (by omega)).c1⟩) | (with_reducible exact ⟨((x_s.aside (by omega)).aside (by omega)).c0, ((x_s.aside (by omega)).aside (by omega)).c1, ((x_s.aside (by omega)).aside (by omega)).c2, ((x_s.aside (by omega)).aside (by omega)).c3, ((x_o.aside (by omega)).aside (by omega)).c0, ((x_o.aside (by omega)).aside (by omega)).c1⟩) | go_keep)
     (first | (go_at_call 75; (with_reducible refine (RCmpZ_any e1.drw.zr zo.drw.zr 20000 (by omega) (by omega) (by omega)).mono ?_); rintro e v2 ⟨rfl, hb1⟩; replace hb1 := undrew hb1; obtain ⟨x_r, x_s, x_o, zo, e0, e1⟩ := mv6 hb1 x_r x_s x_o zo e0 e1; replace hb := bthen hb hb1; clear hb1; replace q_s := x_s.al; replace q_o := x_o.al; rw [HC.out]))
    go_wp2
    replace x_r := x_r.aside (b' := (ngB E1)) (A' := A1) (n' := n1) (c' := c1) (g := w.heap.size + 1) (by omega)
    replace x_s := x_s.aside (b' := (ngB E1)) (A' := A1) (n' := n1) (c' := c1) (g := w.heap.size + 1) (by omega)
    replace zo := zo.put (b' := (ngB E1)) (A' := A1) (n' := n1) (c' := c1) x_o
    replace e0 := e0.put (b' := (ngB E1)) (A' := A1) (n' := n1) (c' := c1) x_o
    replace e1 := e1.put (b' := (ngB E1)) (A' := A1) (n' := n1) (c' := c1) x_o
    replace hb := put_below (g := w.heap.size + 1) hb (by omega) (.bool (ngB E1)) (.slice A1 n1 c1)
    replace x_o := x_o.put (ngB E1) A1 n1 c1
    clear q_s q_o
    generalize (v2.setCell ⟨w.heap.size + 1, 0, none⟩ (.bool (ngB E1))).setCell ⟨w.heap.size + 1, 1, none⟩ (.slice A1 n1 c1) = v3 at *
    have q_s := x_s.al
    have q_o := x_o.al
    go_roundw
    case rel => exact ⟨2, by omega, by omega, by go_num, hb, x_r, _, _, _, by rw [HM1.out]; exact x_o, by rw [HM1.out]; exact e1⟩
    case measure => simp [intOf]
   ·have HM1 := Lib.hid m1; clear m1 i1 i2 hM2
    have q_s := x_s.al
    have q_o := x_o.al
    go_wp2_with fail
    go_region_held3 (fun w' => w'.cell? ⟨g, 0, none⟩ = some (.bool (ngB E0)) ∧ w'.cell? ⟨g, 1, none⟩ = some (.slice A0 n0 c0) ∧ w'.cell? ⟨g, 2, none⟩ = some (.bool (ngB E1)) ∧ w'.cell? ⟨g, 3, none⟩ = some (.slice A1 n1 c1) ∧ w'.cell? ⟨w.heap.size + 1, 0, none⟩ = some (.bool (ngB M)) ∧ w'.cell? ⟨w.heap.size + 1, 1, none⟩ = some (.slice Ao no_ co))
     (first | (with_reducible exact ⟨x_s.c0, x_s.c1, x_s.c2, x_s.c3, x_o.c0, x_o.c1⟩) | (with_reducible exact ⟨(x_s.aside (by omega)).c0, (x_s.aside (by omega)).c1, (x_s.aside (by omega)).c2, (x_s.aside (by omega)).c3, (x_o.aside (by omega)).c0, (x_o.aside (by omega)).c1⟩) | (with_reducible exact ⟨((x_s.aside (by omega)).aside (by omega)).c0, ((x_s.aside (by omega)).aside (by omega)).c1, ((x_s.aside (by omega)).aside (by omega)).c2, ((x_s.aside (by omega)).aside (by omega)).c3, ((x_o.aside (by omega)).aside (by omega)).c0, ((x_o.aside (by omega)).aside (by omega)).c1⟩) | go_keep)
     (first | (go_at_call 75; (with_reducible refine (RCmpZ_any e1.drw.zr zo.drw.zr 20000 (by omega) (by omega) (by omega)).mono ?_); rintro e v2 ⟨rfl, hb1⟩; replace hb1 := undrew hb1; obtain ⟨x_r, x_s, x_o, zo, e0, e1⟩ := mv6 hb1 x_r x_s x_o zo e0 e1; replace hb := bthen hb hb1; clear hb1; replace q_s := x_s.al; replace q_o := x_o.al; rw [HC.out]))
    go_wp2
    go_roundw
    case rel => exact ⟨2, by omega, by omega, by go_num, hb, x_r, _, _, _, by rw [HM1.out]; exact x_o, by rw [HM1.out]; exact zo⟩
    case measure => simp [intOf]
  ·have hm : minK E0 E1 0 0 2 = M0 := HM0.out
   rw [hm] at zo x_o
   clear hm
   have q_r := x_r.al
   have q_o := x_o.al
   go_wp2
   replace x_s := x_s.aside (b' := (ngB M0)) (A' := Ao) (n' := no_) (c' := co) (g := w.heap.size) (by omega)
   replace x_o := x_o.aside (b' := (ngB M0)) (A' := Ao) (n' := no_) (c' := co) (g := w.heap.size) (by omega)
   replace zo := zo.put (b' := (ngB M0)) (A' := Ao) (n' := no_) (c' := co) x_r
   replace e0 := e0.put (b' := (ngB M0)) (A' := Ao) (n' := no_) (c' := co) x_r
   replace e1 := e1.put (b' := (ngB M0)) (A' := Ao) (n' := no_) (c' := co) x_r
   replace hb := put_below (g := w.heap.size) hb (by omega) (.bool (ngB M0)) (.slice Ao no_ co)
   replace x_r := x_r.put (ngB M0) Ao no_ co
   clear q_r q_o
   generalize (wr.setCell ⟨w.heap.size, 0, none⟩ (.bool (ngB M0))).setCell ⟨w.heap.size, 1, none⟩ (.slice Ao no_ co) = v2 at *
   have q_r := x_r.al
   have q_o := x_o.al
   skip
   refine bodyPost_ret (v := .agg #[.bool (ngB M0), .slice Ao no_ co]) (by simp [results, Tryz.results40, go_sem, q_r]) rfl ?_
   exact ⟨_, _, _, rfl, zo, hb⟩

set_option maxRecDepth 100000 in
set_option maxHeartbeats 8000000 in
theorem greatest2_any {A0 : Option Addr} {n0 c0 : Nat} {E0 : Int} {A1 : Option Addr} {n1 c1 : Nat} {E1 : Int} {g K : Nat} {w : World} (x_s : S2x w g (ngB E0) A0 n0 c0 (ngB E1) A1 n1 c1) (e0 : Zn w A0 n0 c0 E0 K) (e1 : Zn w A1 n1 c1 E1 K) (hK : K ≤ 10000) :
  Calls Tryz.prog 41 #[.slice (some ⟨g, 0, none⟩) 2 2] w (OutZ w (max E0 E1) K) := by
 have hgl := x_s.lt
 have HX := Lib.hid x_s; have HE0 := Lib.hid e0; have HE1 := Lib.hid e1
 obtain ⟨M0, hM0⟩ : ∃ M, max E0 E1 = M := ⟨_, rfl⟩
 rw [hM0]
 have HM0 := Lib.hid hM0; clear hM0
 have q_s := x_s.al
 have yy := (x_s.alloc (.cells #[.bool false, .slice none 0 0] 25)).al
 obtain ⟨qy0, fy0, qy1, fy1, qy2, fy2, qy3, fy3⟩ := yy
 go_enter Tryz.func41, Tryz.ntmps41
 go_wp2_with fail
 clear q_s qy0 fy0 qy1 fy1 qy2 fy2 qy3 fy3
 have x_r : Bx (w.alloc (.cells #[.bool false, .slice none 0 0] 25)) (w.heap.size) false none 0 0 := by have := Bx.new w false none 0 0; simpa using this
 replace x_r := x_r.alloc (.cells #[.bool (ngB E0), .slice A0 n0 c0] 25)
 have x_o : Bx ((w.alloc (.cells #[.bool false, .slice none 0 0] 25)).alloc (.cells #[.bool (ngB E0), .slice A0 n0 c0] 25)) (w.heap.size + 1) (ngB E0) A0 n0 c0 := by have := Bx.new (w.alloc (.cells #[.bool false, .slice none 0 0] 25)) (ngB E0) A0 n0 c0; simpa using this
 have hb : Below w.heap.size w ((w.alloc (.cells #[.bool false, .slice none 0 0] 25)).alloc (.cells #[.bool (ngB E0), .slice A0 n0 c0] 25)) := (Below.alloc (Below.alloc (Below.refl w.heap.size w) (by simp) (.cells #[.bool false, .slice none 0 0] 25)) (by simp) (.cells #[.bool (ngB E0), .slice A0 n0 c0] 25))
 generalize (w.alloc (.cells #[.bool false, .slice none 0 0] 25)).alloc (.cells #[.bool (ngB E0), .slice A0 n0 c0] 25) = v1 at *
 obtain ⟨x_s, e0, e1⟩ := mv3 hb x_s e0 e1
 have q_r := x_r.al
 have q_o := x_o.al
 have hrel0 : LsRel w (maxK E0 E1 0 0 1) K v1 := ⟨hb, x_r, _, _, _, x_o, e0⟩
 clear hb x_r x_o x_s e0 e1
 clear q_r q_o
 go_loopw [4] (fun iv wr => ∃ k : Nat, 1 ≤ k ∧ k ≤ 2 ∧ iv = .int .i64 k ∧ LsRel w (maxK E0 E1 0 0 k) K wr) (fun iv _ => 2 - (intOf iv).toNat)
 case atStart => exact ⟨1, by omega, by omega, rfl, hrel0⟩
 case round =>
  clear hrel0
  obtain ⟨k, hk1, hk, rfl, hb, x_r, Ao, no_, co, x_o, zo⟩ := hrel
  have x_s := HX.out.keep hb; have e0 := HE0.out.keep hb; have e1 := HE1.out.keep hb
  rcases (show k = 1 ∨ k = 2 by omega) with rfl | rfl
  ·obtain ⟨M, hM⟩ : ∃ M, maxK E0 E1 0 0 1 = M := ⟨_, rfl⟩
   rw [hM] at zo x_o
   have hM2 : maxK E0 E1 0 0 2 = max M E1 := by rw [← hM]; rfl
   clear hM
   have i1 := sgnI_lt0 (X := E1 - M); have i2 := sgnI_gt0 (X := E1 - M)
   obtain ⟨C, hC⟩ : ∃ C, sgnI (E1 - M) = C := ⟨_, rfl⟩
   rw [hC] at i1 i2
   have HC := Lib.hid hC; clear hC
   rcases (show (0 < C ∧ maxK E0 E1 0 0 2 = E1) ∨ (C ≤ 0 ∧ maxK E0 E1 0 0 2 = M) by rw [hM2]; omega) with ⟨d1, m1⟩ | ⟨d1, m1⟩
   ·have HM1 := Lib.hid m1; clear m1 i1 i2 hM2
    have q_s := x_s.al
    have q_o := x_o.al
    go_wp2_with fail
    go_region_held3 (fun w' => w'.cell? ⟨g, 0, none⟩ = some (.bool (ngB E0)) ∧ w'.cell? ⟨g, 1, none⟩ = some (.slice A0 n0 c0) ∧ w'.cell? ⟨g, 2, none⟩ = some (.bool (ngB E1)) ∧ w'.cell? ⟨g, 3, none⟩ = some (.slice A1 n1 c1) ∧ w'.cell? ⟨w.heap.size + 1, 0, none⟩ = some (.bool (ngB M)) ∧ w'.cell? ⟨w.heap.size + 1, 1, none⟩ = some (.slice Ao no_ co))
     (first | (with_reducible exact ⟨x_s.c0, x_s.c1, x_s.c2, x_s.c3, x_o.c0, x_o.c1⟩) | (with_reducible exact ⟨(x_s.aside (by omega)).c0, (x_s.aside (by omega)).c1, (x_s.aside (by omega)).c2, (x_s.aside (by omega)).c3, (x_o.aside (by omega)).c0, (x_o.aside (by omega)).c1⟩) | (with_reducible exact ⟨((x_s.aside (by omega)).aside (by omega)).c0, ((x_s.aside (by omega)).aside (by omega)).c1, ((x_s.aside (by omega)).aside (by omega)).c2, ((x_s.aside (by omega)).aside (by omega)).c3, ((x_o.aside (by omega)).aside (by omega)).c0, ((x_o.aside (by omega)).aside (by omega)).c1⟩) | go_keep)
     (first | (go_at_call 75; (with_reducible refine (RCmpZ_any e1.drw.zr zo.drw.zr 20000 (by omega) (by omega) (by omega)).mono ?_); rintro e v2 ⟨rfl, hb1⟩; replace hb1 := undrew hb1; obtain ⟨x_r, x_s, x_o, zo, e0, e1⟩ := mv6 hb1 x_r x_s x_o zo e0 e1; replace hb := bthen hb hb1; clear hb1; replace q_s := x_s.al; replace q_o := x_o.al; rw [HC.out]))
    go_wp2
    replace x_r := x_r.aside (b' := (ngB E1)) (A' := A1) (n' := n1) (c' := c1) (g := w.heap.size + 1) (by omega)
    replace x_s := x_s.aside (b' := (ngB E1)) (A' := A1) (n' := n1) (c' := c1) (g := w.heap.size + 1) (by omega)
    replace zo := zo.put (b' := (ngB E1)) (A' := A1) (n' := n1) (c' := c1) x_o
    replace e0 := e0.put (b' := (ngB E1)) (A' := A1) (n' := n1) (c' := c1) x_o
    replace e1 := e1.put (b' := (ngB E1)) (A' := A1) (n' := n1) (c' := c1) x_o
    replace hb := put_below (g := w.heap.size + 1) hb (by omega) (.bool (ngB E1)) (.slice A1 n1 c1)
    replace x_o := x_o.put (ngB E1) A1 n1 c1
    clear q_s q_o
    generalize (v2.setCell ⟨w.heap.size + 1, 0, none⟩ (.bool (ngB E1))).setCell ⟨w.heap.size + 1, 1, none⟩ (.slice A1 n1 c1) = v3 at *
    have q_s := x_s.al
    have q_o := x_o.al
    go_roundw
    case rel => exact ⟨2, by omega, by omega, by go_num, hb, x_r, _, _, _, by rw [HM1.out]; exact x_o, by rw [HM1.out]; exact e1⟩
    case measure => simp [intOf]
   ·have HM1 := Lib.hid m1; clear m1 i1 i2 hM2
    have q_s := x_s.al
    have q_o := x_o.al
    go_wp2_with fail
    go_region_held3 (fun w' => w'.cell? ⟨g, 0, none⟩ = some (.bool (ngB E0)) ∧ w'.cell? ⟨g, 1, none⟩ = some (.slice A0 n0 c0) ∧ w'.cell? ⟨g, 2, none⟩ = some (.bool (ngB E1)) ∧ w'.cell? ⟨g, 3, none⟩ = some (.slice A1 n1 c1) ∧ w'.cell? ⟨w.heap.size + 1, 0, none⟩ = some (.bool (ngB M)) ∧ w'.cell? ⟨w.heap.size + 1, 1, none⟩ = some (.slice Ao no_ co))
     (first | (with_reducible exact ⟨x_s.c0, x_s.c1, x_s.c2, x_s.c3, x_o.c0, x_o.c1⟩) | (with_reducible exact ⟨(x_s.aside (by omega)).c0, (x_s.aside (by omega)).c1, (x_s.aside (by omega)).c2, (x_s.aside (by omega)).c3, (x_o.aside (by omega)).c0, (x_o.aside (by omega)).c1⟩) | (with_reducible exact ⟨((x_s.aside (by omega)).aside (by omega)).c0, ((x_s.aside (by omega)).aside (by omega)).c1, ((x_s.aside (by omega)).aside (by omega)).c2, ((x_s.aside (by omega)).aside (by omega)).c3, ((x_o.aside (by omega)).aside (by omega)).c0, ((x_o.aside (by omega)).aside (by omega)).c1⟩) | go_keep)
     (first | (go_at_call 75; (with_reducible refine (RCmpZ_any e1.drw.zr zo.drw.zr 20000 (by omega) (by omega) (by omega)).mono ?_); rintro e v2 ⟨rfl, hb1⟩; replace hb1 := undrew hb1; obtain ⟨x_r, x_s, x_o, zo, e0, e1⟩ := mv6 hb1 x_r x_s x_o zo e0 e1; replace hb := bthen hb hb1; clear hb1; replace q_s := x_s.al; replace q_o := x_o.al; rw [HC.out]))
    go_wp2
    go_roundw
    case rel => exact ⟨2, by omega, by omega, by go_num, hb, x_r, _, _, _, by rw [HM1.out]; exact x_o, by rw [HM1.out]; exact zo⟩
    case measure => simp [intOf]
  ·have hm : maxK E0 E1 0 0 2 = M0 := HM0.out
   rw [hm] at zo x_o
   clear hm
   have q_r := x_r.al
   have q_o := x_o.al
   go_wp2
   replace x_s := x_s.aside (b' := (ngB M0)) (A' := Ao) (n' := no_) (c' := co) (g := w.heap.size) (by omega)
   replace x_o := x_o.aside (b' := (ngB M0)) (A' := Ao) (n' := no_) (c' := co) (g := w.heap.size) (by omega)
   replace zo := zo.put (b' := (ngB M0)) (A' := Ao) (n' := no_) (c' := co) x_r
   replace e0 := e0.put (b' := (ngB M0)) (A' := Ao) (n' := no_) (c' := co) x_r
   replace e1 := e1.put (b' := (ngB M0)) (A' := Ao) (n' := no_) (c' := co) x_r
   replace hb := put_below (g := w.heap.size) hb (by omega) (.bool (ngB M0)) (.slice Ao no_ co)
   replace x_r := x_r.put (ngB M0) Ao no_ co
   clear q_r q_o
   generalize (wr.setCell ⟨w.heap.size, 0, none⟩ (.bool (ngB M0))).setCell ⟨w.heap.size, 1, none⟩ (.slice Ao no_ co) = v2 at *
   have q_r := x_r.al
   have q_o := x_o.al
   skip
   refine bodyPost_ret (v := .agg #[.bool (ngB M0), .slice Ao no_ co]) (by simp [results, Tryz.results41, go_sem, q_r]) rfl ?_
   exact ⟨_, _, _, rfl, zo, hb⟩

end Go.Proofs.YtiikmjnnlckiiaaGreat
