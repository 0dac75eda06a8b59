/-
 ball: matching, combine.
-/
import Derived.Test.YtiikmjnnlckiiaaGreatLclos
namespace Go.Proofs.YtiikmjnnlckiiaaGreat
open Go.RowKit
set_option linter.unusedVariables false

theorem Zr.up {w : World} {b : Bool} {A : Option Addr} {n c j k : Nat} {X : Int} (h : Zr w b A n c X j) (hk : j ≤ k) : Zr w b A n c X k := by
 obtain ⟨l, h1, h2, h3⟩ := h
 exact ⟨l, h1, h2, by omega⟩
/-- Block g holds these cells, two integers an element. -/
def Sx (w : World) (g : Nat) (cs : Array Value) : Prop := w.heap[g]? = some (.cells cs 111 (0, 0))
theorem Sx.lt {w : World} {g : Nat} {cs : Array Value} (h : Sx w g cs) : g < w.heap.size := by
 rcases Nat.lt_or_ge g w.heap.size with hlt | hge
 ·exact hlt
 ·unfold Sx at h; rw [Array.getElem?_eq_none hge] at h; cases h
theorem Sx.c {w : World} {g : Nat} {cs : Array Value} (h : Sx w g cs) (i : Nat) (u : Value) (hu : cs[i]? = some u) : w.cell? ⟨g, i, none⟩ = some u := by rw [cell_of_row w g i _ _ (0, 0) h]; exact hu
theorem Sx.keep {w w' : World} {g : Nat} {cs : Array Value} (h : Sx w g cs) (hb : Below w.heap.size w w') : Sx w' g cs := (hb.block g h.lt).trans h
instance Sx.mv {g : Nat} {cs : Array Value} {v w : World} : Mv (Sx v g cs) v w (Sx w g cs) := ⟨fun h hb => Sx.keep h hb⟩
theorem Sx.far {w : World} {g : Nat} {cs : Array Value} (h : Sx w g cs) {z : Addr} (hp : g ≠ z.block) (u : Value) : Sx (w.setCell z u) g cs := (Below.heap_setCell w z u g hp).trans h
theorem Sx.aside {w : World} {g : Nat} {cs : Array Value} {h : Nat} {b' : Bool} {A' : Option Addr} {n' c' : Nat} (x : Sx w h cs) (hg : h ≠ g) : Sx ((w.setCell ⟨g, 0, none⟩ (.bool b')).setCell ⟨g, 1, none⟩ (.slice A' n' c')) h cs := (x.far hg _).far hg _
/-- Are both valid, with the same places? -/
def mtB (X Y q U V r : Int) : Bool := decide ((0 ≤ q ∧ q ≤ 2048 ∧ X ≤ Y) ∧ (0 ≤ r ∧ r ≤ 2048 ∧ U ≤ V) ∧ q = r)
theorem mtB_yes {X Y q U V r : Int} (h : (0 ≤ q ∧ q ≤ 2048 ∧ X ≤ Y) ∧ (0 ≤ r ∧ r ≤ 2048 ∧ U ≤ V) ∧ q = r) : mtB X Y q U V r = true := decide_eq_true h
theorem mtB_no {X Y q U V r : Int} (h : ¬ ((0 ≤ q ∧ q ≤ 2048 ∧ X ≤ Y) ∧ (0 ≤ r ∧ r ≤ 2048 ∧ U ≤ V) ∧ q = r)) : mtB X Y q U V r = false := dec_no h
/-- The least so far, the greatest so far. -/
def mnK (f : Int → Int → Int) (X Y U V : Int) : Nat → Int
 | 0 => f X U
 | 1 => min (f X U) (f X V)
 | 2 => min (min (f X U) (f X V)) (f Y U)
 | _ => mn4 f X Y U V
def mxK (f : Int → Int → Int) (X Y U V : Int) : Nat → Int
 | 0 => f X U
 | 1 => max (f X U) (f X V)
 | 2 => max (max (f X U) (f X V)) (f Y U)
 | _ => mx4 f X Y U V
/-- What the loop over the pairs keeps. -/
def CbRel (w : World) (R : World → Prop) (gl gu : Nat) (M N : Int) (K : Nat) (wr : World) : Prop :=
 Below w.heap.size w wr ∧ R wr ∧ ∃ b A n c b' A' n' c', Bx wr gl b A n c ∧ Zr wr b A n c M K ∧ Bx wr gu b' A' n' c' ∧ Zr wr b' A' n' c' N K

set_option maxRecDepth 100000 in
set_option maxHeartbeats 2000000 in
theorem matching_any {b b2 b3 b4 : Bool} {A A2 A3 A4 : Option Addr} {n c n2 c2 n3 c3 n4 c4 : Nat} {X Y U V q r : Int} {j j2 j3 j4 : Nat} {w : World} (h : Zr w b A n c X j) (h2 : Zr w b2 A2 n2 c2 Y j2) (h3 : Zr w b3 A3 n3 c3 U j3) (h4 : Zr w b4 A4 n4 c4 V j4) (hj : j ≤ 1000000) (hj2 : j2 ≤ 1000000) (hj3 : j3 ≤ 1000000) (hj4 : j4 ≤ 1000000) :
  Calls Tryz.prog 119 #[.agg #[.bool b, .slice A n c, .bool b2, .slice A2 n2 c2, .int .i64 q], .agg #[.bool b3, .slice A3 n3 c3, .bool b4, .slice A4 n4 c4, .int .i64 r]] w fun e w' => e = .returned (.bool (mtB X Y q U V r)) ∧ Below w.heap.size w w' := by
 by_cases hr : 0 ≤ q ∧ q ≤ 2048 ∧ X ≤ Y
 ·have HR := Lib.hid (rB_yes hr)
  by_cases hs : 0 ≤ r ∧ r ≤ 2048 ∧ U ≤ V
  ·have HS := Lib.hid (rB_yes hs)
   by_cases hqr : q = r
   ·have HF := Lib.hid (mtB_yes ⟨hr, hs, hqr⟩)
    have HQR := Lib.hid hqr
    have hbe : (q == r) = true := by rw [hqr]; exact beq_self_eq_true r
    clear hr hs hqr
    go_enter Tryz.func119, Tryz.ntmps119
    go_wp2_with fail
    have x_a : Lx (w.alloc (.cells #[.bool b, .slice A n c, .bool b2, .slice A2 n2 c2, .int .i64 q] 27)) (w.heap.size) b A n c b2 A2 n2 c2 q := by have := Lx.new w b A n c b2 A2 n2 c2 q; simpa using this
    replace x_a := x_a.alloc (.cells #[.bool b3, .slice A3 n3 c3, .bool b4, .slice A4 n4 c4, .int .i64 r] 27)
    have x_d : Lx ((w.alloc (.cells #[.bool b, .slice A n c, .bool b2, .slice A2 n2 c2, .int .i64 q] 27)).alloc (.cells #[.bool b3, .slice A3 n3 c3, .bool b4, .slice A4 n4 c4, .int .i64 r] 27)) (w.heap.size + 1) b3 A3 n3 c3 b4 A4 n4 c4 r := by have := Lx.new (w.alloc (.cells #[.bool b, .slice A n c, .bool b2, .slice A2 n2 c2, .int .i64 q] 27)) b3 A3 n3 c3 b4 A4 n4 c4 r; simpa using this
    have hb : Below w.heap.size w ((w.alloc (.cells #[.bool b, .slice A n c, .bool b2, .slice A2 n2 c2, .int .i64 q] 27)).alloc (.cells #[.bool b3, .slice A3 n3 c3, .bool b4, .slice A4 n4 c4, .int .i64 r] 27)) := (Below.alloc (Below.alloc (Below.refl w.heap.size w) (by simp) (.cells #[.bool b, .slice A n c, .bool b2, .slice A2 n2 c2, .int .i64 q] 27)) (by simp) (.cells #[.bool b3, .slice A3 n3 c3, .bool b4, .slice A4 n4 c4, .int .i64 r] 27))
    generalize (w.alloc (.cells #[.bool b, .slice A n c, .bool b2, .slice A2 n2 c2, .int .i64 q] 27)).alloc (.cells #[.bool b3, .slice A3 n3 c3, .bool b4, .slice A4 n4 c4, .int .i64 r] 27) = v1 at *
    obtain ⟨h, h2, h3, h4⟩ := mv4 hb h h2 h3 h4
    have q_a := x_a.al
    have q_d := x_d.al
    go_wp2_with fail
    with_reducible refine (Right_any h h2 (by omega) (by omega)).mono ?_
    rintro e v2 ⟨rfl, hb1⟩
    obtain ⟨x_a, x_d, h, h2, h3, h4⟩ := mv6 hb1 x_a x_d h h2 h3 h4
    replace hb := bthen hb hb1
    clear hb1
    replace q_a := x_a.al
    replace q_d := x_d.al
    rw [HR.out]
    go_wp2_with fail
    with_reducible refine (Right_any h3 h4 (by omega) (by omega)).mono ?_
    rintro e v3 ⟨rfl, hb1⟩
    obtain ⟨x_a, x_d, h, h2, h3, h4⟩ := mv6 hb1 x_a x_d h h2 h3 h4
    replace hb := bthen hb hb1
    clear hb1
    replace q_a := x_a.al
    replace q_d := x_d.al
    rw [HS.out]
    go_wp2
    go_ret
    first | exact ⟨qB_bool HF.out.symm, hb⟩ | exact ⟨qB_bool ((by simp [HQR.out] : _ = true).trans HF.out.symm), hb⟩
   ·have HF := Lib.hid (mtB_no (X := X) (Y := Y) (q := q) (U := U) (V := V) (r := r) (fun hc => hqr hc.2.2))
    have HQR := Lib.hid hqr
    have hbe : (q == r) = false := by simpa using hqr
    clear hr hs hqr
    go_enter Tryz.func119, Tryz.ntmps119
    go_wp2_with fail
    have x_a : Lx (w.alloc (.cells #[.bool b, .slice A n c, .bool b2, .slice A2 n2 c2, .int .i64 q] 27)) (w.heap.size) b A n c b2 A2 n2 c2 q := by have := Lx.new w b A n c b2 A2 n2 c2 q; simpa using this
    replace x_a := x_a.alloc (.cells #[.bool b3, .slice A3 n3 c3, .bool b4, .slice A4 n4 c4, .int .i64 r] 27)
    have x_d : Lx ((w.alloc (.cells #[.bool b, .slice A n c, .bool b2, .slice A2 n2 c2, .int .i64 q] 27)).alloc (.cells #[.bool b3, .slice A3 n3 c3, .bool b4, .slice A4 n4 c4, .int .i64 r] 27)) (w.heap.size + 1) b3 A3 n3 c3 b4 A4 n4 c4 r := by have := Lx.new (w.alloc (.cells #[.bool b, .slice A n c, .bool b2, .slice A2 n2 c2, .int .i64 q] 27)) b3 A3 n3 c3 b4 A4 n4 c4 r; simpa using this
    have hb : Below w.heap.size w ((w.alloc (.cells #[.bool b, .slice A n c, .bool b2, .slice A2 n2 c2, .int .i64 q] 27)).alloc (.cells #[.bool b3, .slice A3 n3 c3, .bool b4, .slice A4 n4 c4, .int .i64 r] 27)) := (Below.alloc (Below.alloc (Below.refl w.heap.size w) (by simp) (.cells #[.bool b, .slice A n c, .bool b2, .slice A2 n2 c2, .int .i64 q] 27)) (by simp) (.cells #[.bool b3, .slice A3 n3 c3, .bool b4, .slice A4 n4 c4, .int .i64 r] 27))
    generalize (w.alloc (.cells #[.bool b, .slice A n c, .bool b2, .slice A2 n2 c2, .int .i64 q] 27)).alloc (.cells #[.bool b3, .slice A3 n3 c3, .bool b4, .slice A4 n4 c4, .int .i64 r] 27) = v1 at *
    obtain ⟨h, h2, h3, h4⟩ := mv4 hb h h2 h3 h4
    have q_a := x_a.al
    have q_d := x_d.al
    go_wp2_with fail
    with_reducible refine (Right_any h h2 (by omega) (by omega)).mono ?_
    rintro e v2 ⟨rfl, hb1⟩
    obtain ⟨x_a, x_d, h, h2, h3, h4⟩ := mv6 hb1 x_a x_d h h2 h3 h4
    replace hb := bthen hb hb1
    clear hb1
    replace q_a := x_a.al
    replace q_d := x_d.al
    rw [HR.out]
    go_wp2_with fail
    with_reducible refine (Right_any h3 h4 (by omega) (by omega)).mono ?_
    rintro e v3 ⟨rfl, hb1⟩
    obtain ⟨x_a, x_d, h, h2, h3, h4⟩ := mv6 hb1 x_a x_d h h2 h3 h4
    replace hb := bthen hb hb1
    clear hb1
    replace q_a := x_a.al
    replace q_d := x_d.al
    rw [HS.out]
    go_wp2
    go_ret
    first | exact ⟨qB_bool HF.out.symm, hb⟩ | exact ⟨qB_bool ((by simp [HQR.out] : _ = false).trans HF.out.symm), hb⟩
  ·have HS := Lib.hid (rB_no hs)
   have HF := Lib.hid (mtB_no (X := X) (Y := Y) (q := q) (U := U) (V := V) (r := r) (fun hc => hs hc.2.1))
   clear hr hs
   go_enter Tryz.func119, Tryz.ntmps119
   go_wp2_with fail
   have x_a : Lx (w.alloc (.cells #[.bool b, .slice A n c, .bool b2, .slice A2 n2 c2, .int .i64 q] 27)) (w.heap.size) b A n c b2 A2 n2 c2 q := by have := Lx.new w b A n c b2 A2 n2 c2 q; simpa using this
   replace x_a := x_a.alloc (.cells #[.bool b3, .slice A3 n3 c3, .bool b4, .slice A4 n4 c4, .int .i64 r] 27)
   have x_d : Lx ((w.alloc (.cells #[.bool b, .slice A n c, .bool b2, .slice A2 n2 c2, .int .i64 q] 27)).alloc (.cells #[.bool b3, .slice A3 n3 c3, .bool b4, .slice A4 n4 c4, .int .i64 r] 27)) (w.heap.size + 1) b3 A3 n3 c3 b4 A4 n4 c4 r := by have := Lx.new (w.alloc (.cells #[.bool b, .slice A n c, .bool b2, .slice A2 n2 c2, .int .i64 q] 27)) b3 A3 n3 c3 b4 A4 n4 c4 r; simpa using this
   have hb : Below w.heap.size w ((w.alloc (.cells #[.bool b, .slice A n c, .bool b2, .slice A2 n2 c2, .int .i64 q] 27)).alloc (.cells #[.bool b3, .slice A3 n3 c3, .bool b4, .slice A4 n4 c4, .int .i64 r] 27)) := (Below.alloc (Below.alloc (Below.refl w.heap.size w) (by simp) (.cells #[.bool b, .slice A n c, .bool b2, .slice A2 n2 c2, .int .i64 q] 27)) (by simp) (.cells #[.bool b3, .slice A3 n3 c3, .bool b4, .slice A4 n4 c4, .int .i64 r] 27))
   generalize (w.alloc (.cells #[.bool b, .slice A n c, .bool b2, .slice A2 n2 c2, .int .i64 q] 27)).alloc (.cells #[.bool b3, .slice A3 n3 c3, .bool b4, .slice A4 n4 c4, .int .i64 r] 27) = v1 at *
   obtain ⟨h, h2, h3, h4⟩ := mv4 hb h h2 h3 h4
   have q_a := x_a.al
   have q_d := x_d.al
   go_wp2_with fail
   with_reducible refine (Right_any h h2 (by omega) (by omega)).mono ?_
   rintro e v2 ⟨rfl, hb1⟩
   obtain ⟨x_a, x_d, h, h2, h3, h4⟩ := mv6 hb1 x_a x_d h h2 h3 h4
   replace hb := bthen hb hb1
   clear hb1
   replace q_a := x_a.al
   replace q_d := x_d.al
   rw [HR.out]
   go_wp2_with fail
   with_reducible refine (Right_any h3 h4 (by omega) (by omega)).mono ?_
   rintro e v3 ⟨rfl, hb1⟩
   obtain ⟨x_a, x_d, h, h2, h3, h4⟩ := mv6 hb1 x_a x_d h h2 h3 h4
   replace hb := bthen hb hb1
   clear hb1
   replace q_a := x_a.al
   replace q_d := x_d.al
   rw [HS.out]
   go_wp2
   go_ret
   exact ⟨qB_bool HF.out.symm, hb⟩
 ·have HR := Lib.hid (rB_no hr)
  have HF := Lib.hid (mtB_no (X := X) (Y := Y) (q := q) (U := U) (V := V) (r := r) (fun hc => hr hc.1))
  clear hr
  go_enter Tryz.func119, Tryz.ntmps119
  go_wp2_with fail
  have x_a : Lx (w.alloc (.cells #[.bool b, .slice A n c, .bool b2, .slice A2 n2 c2, .int .i64 q] 27)) (w.heap.size) b A n c b2 A2 n2 c2 q := by have := Lx.new w b A n c b2 A2 n2 c2 q; simpa using this
  replace x_a := x_a.alloc (.cells #[.bool b3, .slice A3 n3 c3, .bool b4, .slice A4 n4 c4, .int .i64 r] 27)
  have x_d : Lx ((w.alloc (.cells #[.bool b, .slice A n c, .bool b2, .slice A2 n2 c2, .int .i64 q] 27)).alloc (.cells #[.bool b3, .slice A3 n3 c3, .bool b4, .slice A4 n4 c4, .int .i64 r] 27)) (w.heap.size + 1) b3 A3 n3 c3 b4 A4 n4 c4 r := by have := Lx.new (w.alloc (.cells #[.bool b, .slice A n c, .bool b2, .slice A2 n2 c2, .int .i64 q] 27)) b3 A3 n3 c3 b4 A4 n4 c4 r; simpa using this
  have hb : Below w.heap.size w ((w.alloc (.cells #[.bool b, .slice A n c, .bool b2, .slice A2 n2 c2, .int .i64 q] 27)).alloc (.cells #[.bool b3, .slice A3 n3 c3, .bool b4, .slice A4 n4 c4, .int .i64 r] 27)) := (Below.alloc (Below.alloc (Below.refl w.heap.size w) (by simp) (.cells #[.bool b, .slice A n c, .bool b2, .slice A2 n2 c2, .int .i64 q] 27)) (by simp) (.cells #[.bool b3, .slice A3 n3 c3, .bool b4, .slice A4 n4 c4, .int .i64 r] 27))
  generalize (w.alloc (.cells #[.bool b, .slice A n c, .bool b2, .slice A2 n2 c2, .int .i64 q] 27)).alloc (.cells #[.bool b3, .slice A3 n3 c3, .bool b4, .slice A4 n4 c4, .int .i64 r] 27) = v1 at *
  obtain ⟨h, h2, h3, h4⟩ := mv4 hb h h2 h3 h4
  have q_a := x_a.al
  have q_d := x_d.al
  go_wp2_with fail
  with_reducible refine (Right_any h h2 (by omega) (by omega)).mono ?_
  rintro e v2 ⟨rfl, hb1⟩
  obtain ⟨x_a, x_d, h, h2, h3, h4⟩ := mv6 hb1 x_a x_d h h2 h3 h4
  replace hb := bthen hb hb1
  clear hb1
  replace q_a := x_a.al
  replace q_d := x_d.al
  rw [HR.out]
  go_wp2
  go_ret
  exact ⟨qB_bool HF.out.symm, hb⟩

set_option maxRecDepth 100000 in
set_option maxHeartbeats 16000000 in
theorem combine_any {b b2 b3 b4 : Bool} {A A2 A3 A4 : Option Addr} {n c n2 c2 n3 c3 n4 c4 : Nat} {X Y U V q : Int} {j j2 j3 j4 : Nat} {w : World} (h : Zr w b A n c X j) (h2 : Zr w b2 A2 n2 c2 Y j2) (h3 : Zr w b3 A3 n3 c3 U j3) (h4 : Zr w b4 A4 n4 c4 V j4) (hv : 0 ≤ q ∧ q ≤ 2048 ∧ X ≤ Y) (hv2 : U ≤ V) {fid : Nat} {caps : Array Value} (hent : ∀ (args : Array Value) (w : World), (callFunc fid args).run Tryz.prog w = .ok (.enter fid args) w)
  (dn up : Int → Int → Int) (J K : Nat) (hJ : j ≤ J) (hJ2 : j2 ≤ J) (hJ3 : j3 ≤ J) (hJ4 : j4 ≤ J) (hJ5 : J ≤ 1000000) (hK : K ≤ 1000000)
  (hat : ∀ (w' : World) (b : Bool) (A : Option Addr) (n c : Nat) (b2 : Bool) (A2 : Option Addr) (n2 c2 : Nat) (x y : Int), Below w.heap.size w w' → Zr w' b A n c x J → Zr w' b2 A2 n2 c2 y J → (y = U ∨ y = V) →
   Calls Tryz.prog fid (#[.agg #[.bool b, .slice A n c], .agg #[.bool b2, .slice A2 n2 c2]] ++ caps) w' (Out2Z w' (dn x y) (up x y) K)) :
  Calls Tryz.prog 82 #[.agg #[.bool b, .slice A n c, .bool b2, .slice A2 n2 c2, .int .i64 q], .agg #[.bool b3, .slice A3 n3 c3, .bool b4, .slice A4 n4 c4, .int .i64 q], .func (.func fid) #[] caps] w (OuL w (mn4 dn X Y U V) (mx4 up X Y U V) q K) := by
 replace h := h.up (k := J) hJ; replace h2 := h2.up (k := J) hJ2; replace h3 := h3.up (k := J) hJ3; replace h4 := h4.up (k := J) hJ4
 clear hJ hJ2 hJ3 hJ4
 have HM := Lib.hid (mtB_yes (r := q) ⟨hv, ⟨hv.1, hv.2.1, hv2⟩, rfl⟩)
 have HAT := Lib.hid hat; have H1 := Lib.hid h; have H2 := Lib.hid h2; have H3 := Lib.hid h3; have H4 := Lib.hid h4
 clear hat hv hv2
 obtain ⟨M0, hM0⟩ : ∃ M, mn4 dn X Y U V = M := ⟨_, rfl⟩
 obtain ⟨N0, hN0⟩ : ∃ N, mx4 up X Y U V = N := ⟨_, rfl⟩
 rw [hM0, hN0]
 have HM0 := Lib.hid hM0; have HN0 := Lib.hid hN0; clear hM0 hN0
 go_enter Tryz.func82, Tryz.ntmps82
 go_wp2_with fail
 have x_a : Lx (w.alloc (.cells #[.bool b, .slice A n c, .bool b2, .slice A2 n2 c2, .int .i64 q] 27)) (w.heap.size) b A n c b2 A2 n2 c2 q := by have := Lx.new w b A n c b2 A2 n2 c2 q; simpa using this
 replace x_a := x_a.alloc (.cells #[.bool b3, .slice A3 n3 c3, .bool b4, .slice A4 n4 c4, .int .i64 q] 27)
 have x_d : Lx ((w.alloc (.cells #[.bool b, .slice A n c, .bool b2, .slice A2 n2 c2, .int .i64 q] 27)).alloc (.cells #[.bool b3, .slice A3 n3 c3, .bool b4, .slice A4 n4 c4, .int .i64 q] 27)) (w.heap.size + 1) b3 A3 n3 c3 b4 A4 n4 c4 q := by have := Lx.new (w.alloc (.cells #[.bool b, .slice A n c, .bool b2, .slice A2 n2 c2, .int .i64 q] 27)) b3 A3 n3 c3 b4 A4 n4 c4 q; simpa using this
 replace x_a := x_a.alloc (.cells #[.bool false, .slice none 0 0, .bool false, .slice none 0 0, .int .i64 0] 27)
 replace x_d := x_d.alloc (.cells #[.bool false, .slice none 0 0, .bool false, .slice none 0 0, .int .i64 0] 27)
 have x_r : Lx (((w.alloc (.cells #[.bool b, .slice A n c, .bool b2, .slice A2 n2 c2, .int .i64 q] 27)).alloc (.cells #[.bool b3, .slice A3 n3 c3, .bool b4, .slice A4 n4 c4, .int .i64 q] 27)).alloc (.cells #[.bool false, .slice none 0 0, .bool false, .slice none 0 0, .int .i64 0] 27)) (w.heap.size + 1 + 1) false none 0 0 false none 0 0 0 := by have := Lx.new ((w.alloc (.cells #[.bool b, .slice A n c, .bool b2, .slice A2 n2 c2, .int .i64 q] 27)).alloc (.cells #[.bool b3, .slice A3 n3 c3, .bool b4, .slice A4 n4 c4, .int .i64 q] 27)) false none 0 0 false none 0 0 0; simpa using this
 have hb : Below w.heap.size w (((w.alloc (.cells #[.bool b, .slice A n c, .bool b2, .slice A2 n2 c2, .int .i64 q] 27)).alloc (.cells #[.bool b3, .slice A3 n3 c3, .bool b4, .slice A4 n4 c4, .int .i64 q] 27)).alloc (.cells #[.bool false, .slice none 0 0, .bool false, .slice none 0 0, .int .i64 0] 27)) := (Below.alloc (Below.alloc (Below.alloc (Below.refl w.heap.size w) (by simp) (.cells #[.bool b, .slice A n c, .bool b2, .slice A2 n2 c2, .int .i64 q] 27)) (by simp) (.cells #[.bool b3, .slice A3 n3 c3, .bool b4, .slice A4 n4 c4, .int .i64 q] 27)) (by simp; omega) (.cells #[.bool false, .slice none 0 0, .bool false, .slice none 0 0, .int .i64 0] 27))
 generalize ((w.alloc (.cells #[.bool b, .slice A n c, .bool b2, .slice A2 n2 c2, .int .i64 q] 27)).alloc (.cells #[.bool b3, .slice A3 n3 c3, .bool b4, .slice A4 n4 c4, .int .i64 q] 27)).alloc (.cells #[.bool false, .slice none 0 0, .bool false, .slice none 0 0, .int .i64 0] 27) = v1 at *
 obtain ⟨h, h2, h3, h4⟩ := mv4 hb h h2 h3 h4
 have q_a := x_a.al
 have q_d := x_d.al
 have q_r := x_r.al
 go_wp2_with fail
 with_reducible refine (matching_any h h2 h3 h4 hJ5 hJ5 hJ5 hJ5).mono ?_
 rintro e v2 ⟨rfl, hb1⟩
 obtain ⟨x_a, x_d, x_r, h, h2, h3, h4⟩ := mv7 hb1 x_a x_d x_r h h2 h3 h4
 replace hb := bthen hb hb1
 clear hb1
 replace q_a := x_a.al
 replace q_d := x_d.al
 replace q_r := x_r.al
 rw [HM.out]
 go_wp2_with fail
 with_reducible refine (HAT.out _ _ _ _ _ _ _ _ _ X U hb h h3 (Or.inl rfl)).mono ?_
 rintro e v3 ⟨A5, n5, c5, A6, n6, c6, rfl, z5, z6, hb1⟩
 obtain ⟨x_a, x_d, x_r, h, h2, h3, h4⟩ := mv7 hb1 x_a x_d x_r h h2 h3 h4
 replace hb := bthen hb hb1
 clear hb1
 replace q_a := x_a.al
 replace q_d := x_d.al
 replace q_r := x_r.al
 have y_a := ((x_a.alloc (.cells #[.bool (ngB (dn X U)), .slice A5 n5 c5] 25)).alloc (.cells #[.bool (ngB (up X U)), .slice A6 n6 c6] 25)); have yq_a0 := y_a.c0; have yq_a1 := y_a.c1; have yq_a2 := y_a.c2; have yq_a3 := y_a.c3; have yq_a4 := y_a.c4
 have y_d := ((x_d.alloc (.cells #[.bool (ngB (dn X U)), .slice A5 n5 c5] 25)).alloc (.cells #[.bool (ngB (up X U)), .slice A6 n6 c6] 25)); have yq_d0 := y_d.c0; have yq_d1 := y_d.c1; have yq_d2 := y_d.c2; have yq_d3 := y_d.c3; have yq_d4 := y_d.c4
 have y_r := ((x_r.alloc (.cells #[.bool (ngB (dn X U)), .slice A5 n5 c5] 25)).alloc (.cells #[.bool (ngB (up X U)), .slice A6 n6 c6] 25)); have yq_r0 := y_r.c0; have yq_r1 := y_r.c1; have yq_r2 := y_r.c2; have yq_r3 := y_r.c3; have yq_r4 := y_r.c4
 go_wp2_with fail
 clear y_a yq_a0 yq_a1 yq_a2 yq_a3 yq_a4 y_d yq_d0 yq_d1 yq_d2 yq_d3 yq_d4 y_r yq_r0 yq_r1 yq_r2 yq_r3 yq_r4
 have l_a_l := x_a.lt
 have l_d_l := x_d.lt
 have l_r_l := x_r.lt
 have e_l : w.heap.size ≤ v3.heap.size := hb.size
 have hb1 := below_alloc2 v3 (.cells #[.bool (ngB (dn X U)), .slice A5 n5 c5] 25) (.cells #[.bool (ngB (up X U)), .slice A6 n6 c6] 25)
 have x_l := (Bx.new v3 (ngB (dn X U)) A5 n5 c5).alloc (.cells #[.bool (ngB (up X U)), .slice A6 n6 c6] 25)
 have x_u : Bx ((v3.alloc (.cells #[.bool (ngB (dn X U)), .slice A5 n5 c5] 25)).alloc (.cells #[.bool (ngB (up X U)), .slice A6 n6 c6] 25)) (v3.heap.size + 1) (ngB (up X U)) A6 n6 c6 := by have := Bx.new (v3.alloc (.cells #[.bool (ngB (dn X U)), .slice A5 n5 c5] 25)) (ngB (up X U)) A6 n6 c6; simpa using this
 clear q_a q_d q_r
 obtain ⟨x_a, x_d, x_r, h, h2, h3, h4, z5, z6⟩ := mv9 hb1 x_a x_d x_r h h2 h3 h4 z5 z6
 replace hb := bthen hb hb1
 clear hb1
 have hsz : ((v3.alloc (.cells #[.bool (ngB (dn X U)), .slice A5 n5 c5] 25)).alloc (.cells #[.bool (ngB (up X U)), .slice A6 n6 c6] 25)).heap.size = v3.heap.size + 1 + 1 := by simp
 generalize (v3.alloc (.cells #[.bool (ngB (dn X U)), .slice A5 n5 c5] 25)).alloc (.cells #[.bool (ngB (up X U)), .slice A6 n6 c6] 25) = v4 at *
 have HSZ := Lib.hid hsz; clear hsz
 have q_a := x_a.al
 have q_d := x_d.al
 have q_r := x_r.al
 have q_l := x_l.al
 have q_u := x_u.al
 have hb1 := below_alloc v4 (.cells #[.bool b, .slice A n c, .bool b4, .slice A4 n4 c4, .bool b2, .slice A2 n2 c2, .bool b3, .slice A3 n3 c3, .bool b2, .slice A2 n2 c2, .bool b4, .slice A4 n4 c4] 111)
 have x_s : Sx (v4.alloc (.cells #[.bool b, .slice A n c, .bool b4, .slice A4 n4 c4, .bool b2, .slice A2 n2 c2, .bool b3, .slice A3 n3 c3, .bool b2, .slice A2 n2 c2, .bool b4, .slice A4 n4 c4] 111)) (v3.heap.size + 1 + 1) #[.bool b, .slice A n c, .bool b4, .slice A4 n4 c4, .bool b2, .slice A2 n2 c2, .bool b3, .slice A3 n3 c3, .bool b2, .slice A2 n2 c2, .bool b4, .slice A4 n4 c4] := by have h9 := heap_alloc_new v4 (.cells #[.bool b, .slice A n c, .bool b4, .slice A4 n4 c4, .bool b2, .slice A2 n2 c2, .bool b3, .slice A3 n3 c3, .bool b2, .slice A2 n2 c2, .bool b4, .slice A4 n4 c4] 111); rw [HSZ.out] at h9; exact h9
 have hl_r := x_r.lt; have hl_u := x_u.lt
 obtain ⟨x_a, x_d, x_r, x_l, x_u, h, h2, h3, h4⟩ := mv9 hb1 x_a x_d x_r x_l x_u h h2 h3 h4
 obtain ⟨z5, z6⟩ := mv2 hb1 z5 z6
 replace hb := bthen hb hb1
 clear hb1
 replace q_a := x_a.al
 replace q_d := x_d.al
 replace q_r := x_r.al
 replace q_l := x_l.al
 replace q_u := x_u.al
 clear q_a q_d q_r q_l q_u
 generalize v4.alloc (.cells #[.bool b, .slice A n c, .bool b4, .slice A4 n4 c4, .bool b2, .slice A2 n2 c2, .bool b3, .slice A3 n3 c3, .bool b2, .slice A2 n2 c2, .bool b4, .slice A4 n4 c4] 111) = v5 at *
 clear h h2 h3 h4
 have hsep : w.heap.size + 1 + 1 < v3.heap.size := by have := e_l; have := l_r_l; omega
 have hrel0 : CbRel w (fun wq => Lx wq w.heap.size b A n c b2 A2 n2 c2 q ∧ Lx wq (w.heap.size + 1) b3 A3 n3 c3 b4 A4 n4 c4 q ∧ Lx wq (w.heap.size + 1 + 1) false none 0 0 false none 0 0 0 ∧ Sx wq (v3.heap.size + 1 + 1) #[.bool b, .slice A n c, .bool b4, .slice A4 n4 c4, .bool b2, .slice A2 n2 c2, .bool b3, .slice A3 n3 c3, .bool b2, .slice A2 n2 c2, .bool b4, .slice A4 n4 c4]) (v3.heap.size) (v3.heap.size + 1) (mnK dn X Y U V 0) (mxK up X Y U V 0) K v5 := ⟨hb, ⟨x_a, x_d, x_r, x_s⟩, _, _, _, _, _, _, _, _, x_l, z5.zr, x_u, z6.zr⟩
 clear hb x_a x_d x_r x_s x_l x_u z5 z6 hl_r hl_u
 go_loopw [45] (fun iv wr => ∃ k : Nat, k ≤ 3 ∧ iv = .int .i64 k ∧ CbRel w (fun wq => Lx wq w.heap.size b A n c b2 A2 n2 c2 q ∧ Lx wq (w.heap.size + 1) b3 A3 n3 c3 b4 A4 n4 c4 q ∧ Lx wq (w.heap.size + 1 + 1) false none 0 0 false none 0 0 0 ∧ Sx wq (v3.heap.size + 1 + 1) #[.bool b, .slice A n c, .bool b4, .slice A4 n4 c4, .bool b2, .slice A2 n2 c2, .bool b3, .slice A3 n3 c3, .bool b2, .slice A2 n2 c2, .bool b4, .slice A4 n4 c4]) (v3.heap.size) (v3.heap.size + 1) (mnK dn X Y U V k) (mxK up X Y U V k) K wr) (fun iv _ => 3 - (intOf iv).toNat)
 case atStart => exact ⟨0, by omega, rfl, hrel0⟩
 case round =>
  clear hrel0
  obtain ⟨k, hk, rfl, hb, ⟨x_a, x_d, x_r, x_s⟩, bl_, Al_, nl_, cl_, bu_, Au_, nu_, cu_, x_l, zl, x_u, zu⟩ := hrel
  have h := H1.out.keep hb; have h2 := H2.out.keep hb; have h3 := H3.out.keep hb; have h4 := H4.out.keep hb
  rcases (show k = 0 ∨ k = 1 ∨ k = 2 ∨ k = 3 by omega) with rfl | rfl | rfl | rfl
  ·obtain ⟨M, hM⟩ : ∃ M, mnK dn X Y U V 0 = M := ⟨_, rfl⟩
   obtain ⟨N, hN⟩ : ∃ N, mxK up X Y U V 0 = N := ⟨_, rfl⟩
   rw [hM] at zl; rw [hN] at zu
   have hM2 : mnK dn X Y U V 1 = min M (dn X V) := by rw [← hM]; rfl
   have hN2 : mxK up X Y U V 1 = max N (up X V) := by rw [← hN]; rfl
   clear hM hN
   obtain ⟨C1, hC1⟩ : ∃ C, sgnI (dn X V - M) = C := ⟨_, rfl⟩
   obtain ⟨C2, hC2⟩ : ∃ C, sgnI (up X V - N) = C := ⟨_, rfl⟩
   have i1 := sgnI_lt0 (X := dn X V - M)
   have i2 := sgnI_gt0 (X := up X V - N)
   rw [hC1] at i1; rw [hC2] at i2
   have HC1 := Lib.hid hC1; have HC2 := Lib.hid hC2; clear hC1 hC2
   rcases (show (C1 < 0 ∧ mnK dn X Y U V 1 = dn X V) ∨ (0 ≤ C1 ∧ mnK dn X Y U V 1 = M) by rw [hM2]; omega) with ⟨d1, m1⟩ | ⟨d1, m1⟩ <;> rcases (show (0 < C2 ∧ mxK up X Y U V 1 = up X V) ∨ (C2 ≤ 0 ∧ mxK up X Y U V 1 = N) by rw [hN2]; omega) with ⟨d2, m2⟩ | ⟨d2, m2⟩
   ·have HM1 := Lib.hid m1; have HM2 := Lib.hid m2; clear m1 m2 i1 i2 hM2 hN2
    have q_l := x_l.al
    have q_u := x_u.al
    have s_0 := x_s.c 0 (.bool b) rfl
    have s_1 := x_s.c 1 (.slice A n c) rfl
    have s_2 := x_s.c 2 (.bool b4) rfl
    have s_3 := x_s.c 3 (.slice A4 n4 c4) rfl
    go_wp2_with fail
    clear s_0 s_1 s_2 s_3
    have hb1 := below_alloc wr (.cells #[.bool b, .slice A n c, .bool b4, .slice A4 n4 c4] 111)
    have l_a_e := x_a.lt
    have l_d_e := x_d.lt
    have l_r_e := x_r.lt
    have l_l_e := x_l.lt
    have l_u_e := x_u.lt
    have x_e := Ex.new wr b A n c b4 A4 n4 c4
    have e_e : w.heap.size ≤ wr.heap.size := hb.size
    clear q_l q_u
    obtain ⟨x_a, x_d, x_r, x_l, x_u, h, h2, h3, h4⟩ := mv9 hb1 x_a x_d x_r x_l x_u h h2 h3 h4
    obtain ⟨zl, zu, x_s⟩ := mv3 hb1 zl zu x_s
    replace hb := bthen hb hb1
    clear hb1
    generalize wr.alloc (.cells #[.bool b, .slice A n c, .bool b4, .slice A4 n4 c4] 111) = v6 at *
    have q_l := x_l.al
    have q_u := x_u.al
    have q_e := x_e.al
    have hbx := hb
    skip
    with_reducible refine (HAT.out _ _ _ _ _ _ _ _ _ X V hb h h4 (Or.inr rfl)).mono ?_
    rintro e v7 ⟨A7, n7, c7, A8, n8, c8, rfl, z7, z8, hb1⟩
    obtain ⟨x_a, x_d, x_r, x_l, x_u, x_e, h, h2, h3⟩ := mv9 hb1 x_a x_d x_r x_l x_u x_e h h2 h3
    obtain ⟨h4, zl, zu, x_s⟩ := mv4 hb1 h4 zl zu x_s
    replace hb := bthen hb hb1
    clear hb1
    replace q_l := x_l.al
    replace q_u := x_u.al
    replace q_e := x_e.al
    clear hbx
    clear h h2 h3 h4
    clear q_e
    have y_l := ((x_l.alloc (.cells #[.bool (ngB (dn X V)), .slice A7 n7 c7] 25)).alloc (.cells #[.bool (ngB (up X V)), .slice A8 n8 c8] 25)); have yq_l0 := y_l.c0; have yq_l1 := y_l.c1
    have y_u := ((x_u.alloc (.cells #[.bool (ngB (dn X V)), .slice A7 n7 c7] 25)).alloc (.cells #[.bool (ngB (up X V)), .slice A8 n8 c8] 25)); have yq_u0 := y_u.c0; have yq_u1 := y_u.c1
    go_wp2_with fail
    clear y_l yq_l0 yq_l1 y_u yq_u0 yq_u1
    have l_a_p := x_a.lt
    have l_d_p := x_d.lt
    have l_r_p := x_r.lt
    have l_l_p := x_l.lt
    have l_u_p := x_u.lt
    have l_e_p := x_e.lt
    have e_p : w.heap.size ≤ v7.heap.size := hb.size
    have hb1 := below_alloc2 v7 (.cells #[.bool (ngB (dn X V)), .slice A7 n7 c7] 25) (.cells #[.bool (ngB (up X V)), .slice A8 n8 c8] 25)
    have x_p := (Bx.new v7 (ngB (dn X V)) A7 n7 c7).alloc (.cells #[.bool (ngB (up X V)), .slice A8 n8 c8] 25)
    have x_t : Bx ((v7.alloc (.cells #[.bool (ngB (dn X V)), .slice A7 n7 c7] 25)).alloc (.cells #[.bool (ngB (up X V)), .slice A8 n8 c8] 25)) (v7.heap.size + 1) (ngB (up X V)) A8 n8 c8 := by have := Bx.new (v7.alloc (.cells #[.bool (ngB (dn X V)), .slice A7 n7 c7] 25)) (ngB (up X V)) A8 n8 c8; simpa using this
    clear q_l q_u
    obtain ⟨x_a, x_d, x_r, x_l, x_u, x_e, zl, zu, x_s⟩ := mv9 hb1 x_a x_d x_r x_l x_u x_e zl zu x_s
    obtain ⟨z7, z8⟩ := mv2 hb1 z7 z8
    replace hb := bthen hb hb1
    clear hb1
    generalize (v7.alloc (.cells #[.bool (ngB (dn X V)), .slice A7 n7 c7] 25)).alloc (.cells #[.bool (ngB (up X V)), .slice A8 n8 c8] 25) = v8 at *
    have q_l := x_l.al
    have q_u := x_u.al
    have q_p := x_p.al
    have q_t := x_t.al
    skip
    with_reducible refine (ZCmp_any z7.zr zl (by omega) (by omega)).mono ?_
    rintro e v9 ⟨rfl, hb1⟩
    obtain ⟨x_a, x_d, x_r, x_l, x_u, x_e, x_p, x_t, zl⟩ := mv9 hb1 x_a x_d x_r x_l x_u x_e x_p x_t zl
    obtain ⟨zu, x_s, z7, z8⟩ := mv4 hb1 zu x_s z7 z8
    replace hb := bthen hb hb1
    clear hb1
    replace q_l := x_l.al
    replace q_u := x_u.al
    replace q_p := x_p.al
    replace q_t := x_t.al
    rw [HC1.out]
    go_wp2_with fail
    replace x_a := x_a.aside (b' := (ngB (dn X V))) (A' := A7) (n' := n7) (c' := c7) (g := v3.heap.size) (by omega)
    replace x_d := x_d.aside (b' := (ngB (dn X V))) (A' := A7) (n' := n7) (c' := c7) (g := v3.heap.size) (by omega)
    replace x_r := x_r.aside (b' := (ngB (dn X V))) (A' := A7) (n' := n7) (c' := c7) (g := v3.heap.size) (by omega)
    replace x_u := x_u.aside (b' := (ngB (dn X V))) (A' := A7) (n' := n7) (c' := c7) (g := v3.heap.size) (by omega)
    replace x_e := x_e.aside (b' := (ngB (dn X V))) (A' := A7) (n' := n7) (c' := c7) (g := v3.heap.size) (by omega)
    replace x_p := x_p.aside (b' := (ngB (dn X V))) (A' := A7) (n' := n7) (c' := c7) (g := v3.heap.size) (by omega)
    replace x_t := x_t.aside (b' := (ngB (dn X V))) (A' := A7) (n' := n7) (c' := c7) (g := v3.heap.size) (by omega)
    replace zl := zl.put (b' := (ngB (dn X V))) (A' := A7) (n' := n7) (c' := c7) x_l
    replace zu := zu.put (b' := (ngB (dn X V))) (A' := A7) (n' := n7) (c' := c7) x_l
    replace x_s := x_s.aside (b' := (ngB (dn X V))) (A' := A7) (n' := n7) (c' := c7) (g := v3.heap.size) (by omega)
    replace z7 := z7.put (b' := (ngB (dn X V))) (A' := A7) (n' := n7) (c' := c7) x_l
    replace z8 := z8.put (b' := (ngB (dn X V))) (A' := A7) (n' := n7) (c' := c7) x_l
    replace hb := put_below (g := v3.heap.size) hb (by omega) (.bool (ngB (dn X V))) (.slice A7 n7 c7)
    replace x_l := x_l.put (ngB (dn X V)) A7 n7 c7
    clear q_l q_u q_p q_t
    generalize (v9.setCell ⟨v3.heap.size, 0, none⟩ (.bool (ngB (dn X V)))).setCell ⟨v3.heap.size, 1, none⟩ (.slice A7 n7 c7) = v10 at *
    have q_l := x_l.al
    have q_u := x_u.al
    have q_p := x_p.al
    have q_t := x_t.al
    skip
    with_reducible refine (ZCmp_any z8.zr zu (by omega) (by omega)).mono ?_
    rintro e v11 ⟨rfl, hb1⟩
    obtain ⟨x_a, x_d, x_r, x_l, x_u, x_e, x_p, x_t, zl⟩ := mv9 hb1 x_a x_d x_r x_l x_u x_e x_p x_t zl
    obtain ⟨zu, x_s, z7, z8⟩ := mv4 hb1 zu x_s z7 z8
    replace hb := bthen hb hb1
    clear hb1
    replace q_l := x_l.al
    replace q_u := x_u.al
    replace q_p := x_p.al
    replace q_t := x_t.al
    rw [HC2.out]
    go_wp2
    replace x_a := x_a.aside (b' := (ngB (up X V))) (A' := A8) (n' := n8) (c' := c8) (g := v3.heap.size + 1) (by omega)
    replace x_d := x_d.aside (b' := (ngB (up X V))) (A' := A8) (n' := n8) (c' := c8) (g := v3.heap.size + 1) (by omega)
    replace x_r := x_r.aside (b' := (ngB (up X V))) (A' := A8) (n' := n8) (c' := c8) (g := v3.heap.size + 1) (by omega)
    replace x_l := x_l.aside (b' := (ngB (up X V))) (A' := A8) (n' := n8) (c' := c8) (g := v3.heap.size + 1) (by omega)
    replace x_e := x_e.aside (b' := (ngB (up X V))) (A' := A8) (n' := n8) (c' := c8) (g := v3.heap.size + 1) (by omega)
    replace x_p := x_p.aside (b' := (ngB (up X V))) (A' := A8) (n' := n8) (c' := c8) (g := v3.heap.size + 1) (by omega)
    replace x_t := x_t.aside (b' := (ngB (up X V))) (A' := A8) (n' := n8) (c' := c8) (g := v3.heap.size + 1) (by omega)
    replace zl := zl.put (b' := (ngB (up X V))) (A' := A8) (n' := n8) (c' := c8) x_u
    replace zu := zu.put (b' := (ngB (up X V))) (A' := A8) (n' := n8) (c' := c8) x_u
    replace x_s := x_s.aside (b' := (ngB (up X V))) (A' := A8) (n' := n8) (c' := c8) (g := v3.heap.size + 1) (by omega)
    replace z7 := z7.put (b' := (ngB (up X V))) (A' := A8) (n' := n8) (c' := c8) x_u
    replace z8 := z8.put (b' := (ngB (up X V))) (A' := A8) (n' := n8) (c' := c8) x_u
    replace hb := put_below (g := v3.heap.size + 1) hb (by omega) (.bool (ngB (up X V))) (.slice A8 n8 c8)
    replace x_u := x_u.put (ngB (up X V)) A8 n8 c8
    clear q_l q_u q_p q_t
    generalize (v11.setCell ⟨v3.heap.size + 1, 0, none⟩ (.bool (ngB (up X V)))).setCell ⟨v3.heap.size + 1, 1, none⟩ (.slice A8 n8 c8) = v12 at *
    have q_l := x_l.al
    have q_u := x_u.al
    have q_p := x_p.al
    have q_t := x_t.al
    go_roundw
    case rel => exact ⟨1, by omega, by go_num, hb, ⟨x_a, x_d, x_r, x_s⟩, _, _, _, _, _, _, _, _, x_l, by rw [HM1.out]; exact z7.zr, x_u, by rw [HM2.out]; exact z8.zr⟩
    case measure => simp [intOf]
   ·have HM1 := Lib.hid m1; have HM2 := Lib.hid m2; clear m1 m2 i1 i2 hM2 hN2
    have q_l := x_l.al
    have q_u := x_u.al
    have s_0 := x_s.c 0 (.bool b) rfl
    have s_1 := x_s.c 1 (.slice A n c) rfl
    have s_2 := x_s.c 2 (.bool b4) rfl
    have s_3 := x_s.c 3 (.slice A4 n4 c4) rfl
    go_wp2_with fail
    clear s_0 s_1 s_2 s_3
    have hb1 := below_alloc wr (.cells #[.bool b, .slice A n c, .bool b4, .slice A4 n4 c4] 111)
    have l_a_e := x_a.lt
    have l_d_e := x_d.lt
    have l_r_e := x_r.lt
    have l_l_e := x_l.lt
    have l_u_e := x_u.lt
    have x_e := Ex.new wr b A n c b4 A4 n4 c4
    have e_e : w.heap.size ≤ wr.heap.size := hb.size
    clear q_l q_u
    obtain ⟨x_a, x_d, x_r, x_l, x_u, h, h2, h3, h4⟩ := mv9 hb1 x_a x_d x_r x_l x_u h h2 h3 h4
    obtain ⟨zl, zu, x_s⟩ := mv3 hb1 zl zu x_s
    replace hb := bthen hb hb1
    clear hb1
    generalize wr.alloc (.cells #[.bool b, .slice A n c, .bool b4, .slice A4 n4 c4] 111) = v6 at *
    have q_l := x_l.al
    have q_u := x_u.al
    have q_e := x_e.al
    have hbx := hb
    skip
    with_reducible refine (HAT.out _ _ _ _ _ _ _ _ _ X V hb h h4 (Or.inr rfl)).mono ?_
    rintro e v7 ⟨A7, n7, c7, A8, n8, c8, rfl, z7, z8, hb1⟩
    obtain ⟨x_a, x_d, x_r, x_l, x_u, x_e, h, h2, h3⟩ := mv9 hb1 x_a x_d x_r x_l x_u x_e h h2 h3
    obtain ⟨h4, zl, zu, x_s⟩ := mv4 hb1 h4 zl zu x_s
    replace hb := bthen hb hb1
    clear hb1
    replace q_l := x_l.al
    replace q_u := x_u.al
    replace q_e := x_e.al
    clear hbx
    clear h h2 h3 h4
    clear q_e
    have y_l := ((x_l.alloc (.cells #[.bool (ngB (dn X V)), .slice A7 n7 c7] 25)).alloc (.cells #[.bool (ngB (up X V)), .slice A8 n8 c8] 25)); have yq_l0 := y_l.c0; have yq_l1 := y_l.c1
    have y_u := ((x_u.alloc (.cells #[.bool (ngB (dn X V)), .slice A7 n7 c7] 25)).alloc (.cells #[.bool (ngB (up X V)), .slice A8 n8 c8] 25)); have yq_u0 := y_u.c0; have yq_u1 := y_u.c1
    go_wp2_with fail
    clear y_l yq_l0 yq_l1 y_u yq_u0 yq_u1
    have l_a_p := x_a.lt
    have l_d_p := x_d.lt
    have l_r_p := x_r.lt
    have l_l_p := x_l.lt
    have l_u_p := x_u.lt
    have l_e_p := x_e.lt
    have e_p : w.heap.size ≤ v7.heap.size := hb.size
    have hb1 := below_alloc2 v7 (.cells #[.bool (ngB (dn X V)), .slice A7 n7 c7] 25) (.cells #[.bool (ngB (up X V)), .slice A8 n8 c8] 25)
    have x_p := (Bx.new v7 (ngB (dn X V)) A7 n7 c7).alloc (.cells #[.bool (ngB (up X V)), .slice A8 n8 c8] 25)
    have x_t : Bx ((v7.alloc (.cells #[.bool (ngB (dn X V)), .slice A7 n7 c7] 25)).alloc (.cells #[.bool (ngB (up X V)), .slice A8 n8 c8] 25)) (v7.heap.size + 1) (ngB (up X V)) A8 n8 c8 := by have := Bx.new (v7.alloc (.cells #[.bool (ngB (dn X V)), .slice A7 n7 c7] 25)) (ngB (up X V)) A8 n8 c8; simpa using this
    clear q_l q_u
    obtain ⟨x_a, x_d, x_r, x_l, x_u, x_e, zl, zu, x_s⟩ := mv9 hb1 x_a x_d x_r x_l x_u x_e zl zu x_s
    obtain ⟨z7, z8⟩ := mv2 hb1 z7 z8
    replace hb := bthen hb hb1
    clear hb1
    generalize (v7.alloc (.cells #[.bool (ngB (dn X V)), .slice A7 n7 c7] 25)).alloc (.cells #[.bool (ngB (up X V)), .slice A8 n8 c8] 25) = v8 at *
    have q_l := x_l.al
    have q_u := x_u.al
    have q_p := x_p.al
    have q_t := x_t.al
    skip
    with_reducible refine (ZCmp_any z7.zr zl (by omega) (by omega)).mono ?_
    rintro e v9 ⟨rfl, hb1⟩
    obtain ⟨x_a, x_d, x_r, x_l, x_u, x_e, x_p, x_t, zl⟩ := mv9 hb1 x_a x_d x_r x_l x_u x_e x_p x_t zl
    obtain ⟨zu, x_s, z7, z8⟩ := mv4 hb1 zu x_s z7 z8
    replace hb := bthen hb hb1
    clear hb1
    replace q_l := x_l.al
    replace q_u := x_u.al
    replace q_p := x_p.al
    replace q_t := x_t.al
    rw [HC1.out]
    go_wp2_with fail
    replace x_a := x_a.aside (b' := (ngB (dn X V))) (A' := A7) (n' := n7) (c' := c7) (g := v3.heap.size) (by omega)
    replace x_d := x_d.aside (b' := (ngB (dn X V))) (A' := A7) (n' := n7) (c' := c7) (g := v3.heap.size) (by omega)
    replace x_r := x_r.aside (b' := (ngB (dn X V))) (A' := A7) (n' := n7) (c' := c7) (g := v3.heap.size) (by omega)
    replace x_u := x_u.aside (b' := (ngB (dn X V))) (A' := A7) (n' := n7) (c' := c7) (g := v3.heap.size) (by omega)
    replace x_e := x_e.aside (b' := (ngB (dn X V))) (A' := A7) (n' := n7) (c' := c7) (g := v3.heap.size) (by omega)
    replace x_p := x_p.aside (b' := (ngB (dn X V))) (A' := A7) (n' := n7) (c' := c7) (g := v3.heap.size) (by omega)
    replace x_t := x_t.aside (b' := (ngB (dn X V))) (A' := A7) (n' := n7) (c' := c7) (g := v3.heap.size) (by omega)
    replace zl := zl.put (b' := (ngB (dn X V))) (A' := A7) (n' := n7) (c' := c7) x_l
    replace zu := zu.put (b' := (ngB (dn X V))) (A' := A7) (n' := n7) (c' := c7) x_l
    replace x_s := x_s.aside (b' := (ngB (dn X V))) (A' := A7) (n' := n7) (c' := c7) (g := v3.heap.size) (by omega)
    replace z7 := z7.put (b' := (ngB (dn X V))) (A' := A7) (n' := n7) (c' := c7) x_l
    replace z8 := z8.put (b' := (ngB (dn X V))) (A' := A7) (n' := n7) (c' := c7) x_l
    replace hb := put_below (g := v3.heap.size) hb (by omega) (.bool (ngB (dn X V))) (.slice A7 n7 c7)
    replace x_l := x_l.put (ngB (dn X V)) A7 n7 c7
    clear q_l q_u q_p q_t
    generalize (v9.setCell ⟨v3.heap.size, 0, none⟩ (.bool (ngB (dn X V)))).setCell ⟨v3.heap.size, 1, none⟩ (.slice A7 n7 c7) = v10 at *
    have q_l := x_l.al
    have q_u := x_u.al
    have q_p := x_p.al
    have q_t := x_t.al
    skip
    with_reducible refine (ZCmp_any z8.zr zu (by omega) (by omega)).mono ?_
    rintro e v11 ⟨rfl, hb1⟩
    obtain ⟨x_a, x_d, x_r, x_l, x_u, x_e, x_p, x_t, zl⟩ := mv9 hb1 x_a x_d x_r x_l x_u x_e x_p x_t zl
    obtain ⟨zu, x_s, z7, z8⟩ := mv4 hb1 zu x_s z7 z8
    replace hb := bthen hb hb1
    clear hb1
    replace q_l := x_l.al
    replace q_u := x_u.al
    replace q_p := x_p.al
    replace q_t := x_t.al
    rw [HC2.out]
    go_wp2
    go_roundw
    case rel => exact ⟨1, by omega, by go_num, hb, ⟨x_a, x_d, x_r, x_s⟩, _, _, _, _, _, _, _, _, x_l, by rw [HM1.out]; exact z7.zr, x_u, by rw [HM2.out]; exact zu⟩
    case measure => simp [intOf]
   ·have HM1 := Lib.hid m1; have HM2 := Lib.hid m2; clear m1 m2 i1 i2 hM2 hN2
    have q_l := x_l.al
    have q_u := x_u.al
    have s_0 := x_s.c 0 (.bool b) rfl
    have s_1 := x_s.c 1 (.slice A n c) rfl
    have s_2 := x_s.c 2 (.bool b4) rfl
    have s_3 := x_s.c 3 (.slice A4 n4 c4) rfl
    go_wp2_with fail
    clear s_0 s_1 s_2 s_3
    have hb1 := below_alloc wr (.cells #[.bool b, .slice A n c, .bool b4, .slice A4 n4 c4] 111)
    have l_a_e := x_a.lt
    have l_d_e := x_d.lt
    have l_r_e := x_r.lt
    have l_l_e := x_l.lt
    have l_u_e := x_u.lt
    have x_e := Ex.new wr b A n c b4 A4 n4 c4
    have e_e : w.heap.size ≤ wr.heap.size := hb.size
    clear q_l q_u
    obtain ⟨x_a, x_d, x_r, x_l, x_u, h, h2, h3, h4⟩ := mv9 hb1 x_a x_d x_r x_l x_u h h2 h3 h4
    obtain ⟨zl, zu, x_s⟩ := mv3 hb1 zl zu x_s
    replace hb := bthen hb hb1
    clear hb1
    generalize wr.alloc (.cells #[.bool b, .slice A n c, .bool b4, .slice A4 n4 c4] 111) = v6 at *
    have q_l := x_l.al
    have q_u := x_u.al
    have q_e := x_e.al
    have hbx := hb
    skip
    with_reducible refine (HAT.out _ _ _ _ _ _ _ _ _ X V hb h h4 (Or.inr rfl)).mono ?_
    rintro e v7 ⟨A7, n7, c7, A8, n8, c8, rfl, z7, z8, hb1⟩
    obtain ⟨x_a, x_d, x_r, x_l, x_u, x_e, h, h2, h3⟩ := mv9 hb1 x_a x_d x_r x_l x_u x_e h h2 h3
    obtain ⟨h4, zl, zu, x_s⟩ := mv4 hb1 h4 zl zu x_s
    replace hb := bthen hb hb1
    clear hb1
    replace q_l := x_l.al
    replace q_u := x_u.al
    replace q_e := x_e.al
    clear hbx
    clear h h2 h3 h4
    clear q_e
    have y_l := ((x_l.alloc (.cells #[.bool (ngB (dn X V)), .slice A7 n7 c7] 25)).alloc (.cells #[.bool (ngB (up X V)), .slice A8 n8 c8] 25)); have yq_l0 := y_l.c0; have yq_l1 := y_l.c1
    have y_u := ((x_u.alloc (.cells #[.bool (ngB (dn X V)), .slice A7 n7 c7] 25)).alloc (.cells #[.bool (ngB (up X V)), .slice A8 n8 c8] 25)); have yq_u0 := y_u.c0; have yq_u1 := y_u.c1
    go_wp2_with fail
    clear y_l yq_l0 yq_l1 y_u yq_u0 yq_u1
    have l_a_p := x_a.lt
    have l_d_p := x_d.lt
    have l_r_p := x_r.lt
    have l_l_p := x_l.lt
    have l_u_p := x_u.lt
    have l_e_p := x_e.lt
    have e_p : w.heap.size ≤ v7.heap.size := hb.size
    have hb1 := below_alloc2 v7 (.cells #[.bool (ngB (dn X V)), .slice A7 n7 c7] 25) (.cells #[.bool (ngB (up X V)), .slice A8 n8 c8] 25)
    have x_p := (Bx.new v7 (ngB (dn X V)) A7 n7 c7).alloc (.cells #[.bool (ngB (up X V)), .slice A8 n8 c8] 25)
    have x_t : Bx ((v7.alloc (.cells #[.bool (ngB (dn X V)), .slice A7 n7 c7] 25)).alloc (.cells #[.bool (ngB (up X V)), .slice A8 n8 c8] 25)) (v7.heap.size + 1) (ngB (up X V)) A8 n8 c8 := by have := Bx.new (v7.alloc (.cells #[.bool (ngB (dn X V)), .slice A7 n7 c7] 25)) (ngB (up X V)) A8 n8 c8; simpa using this
    clear q_l q_u
    obtain ⟨x_a, x_d, x_r, x_l, x_u, x_e, zl, zu, x_s⟩ := mv9 hb1 x_a x_d x_r x_l x_u x_e zl zu x_s
    obtain ⟨z7, z8⟩ := mv2 hb1 z7 z8
    replace hb := bthen hb hb1
    clear hb1
    generalize (v7.alloc (.cells #[.bool (ngB (dn X V)), .slice A7 n7 c7] 25)).alloc (.cells #[.bool (ngB (up X V)), .slice A8 n8 c8] 25) = v8 at *
    have q_l := x_l.al
    have q_u := x_u.al
    have q_p := x_p.al
    have q_t := x_t.al
    skip
    with_reducible refine (ZCmp_any z7.zr zl (by omega) (by omega)).mono ?_
    rintro e v9 ⟨rfl, hb1⟩
    obtain ⟨x_a, x_d, x_r, x_l, x_u, x_e, x_p, x_t, zl⟩ := mv9 hb1 x_a x_d x_r x_l x_u x_e x_p x_t zl
    obtain ⟨zu, x_s, z7, z8⟩ := mv4 hb1 zu x_s z7 z8
    replace hb := bthen hb hb1
    clear hb1
    replace q_l := x_l.al
    replace q_u := x_u.al
    replace q_p := x_p.al
    replace q_t := x_t.al
    rw [HC1.out]
    go_wp2_with fail
    with_reducible refine (ZCmp_any z8.zr zu (by omega) (by omega)).mono ?_
    rintro e v10 ⟨rfl, hb1⟩
    obtain ⟨x_a, x_d, x_r, x_l, x_u, x_e, x_p, x_t, zl⟩ := mv9 hb1 x_a x_d x_r x_l x_u x_e x_p x_t zl
    obtain ⟨zu, x_s, z7, z8⟩ := mv4 hb1 zu x_s z7 z8
    replace hb := bthen hb hb1
    clear hb1
    replace q_l := x_l.al
    replace q_u := x_u.al
    replace q_p := x_p.al
    replace q_t := x_t.al
    rw [HC2.out]
    go_wp2
    replace x_a := x_a.aside (b' := (ngB (up X V))) (A' := A8) (n' := n8) (c' := c8) (g := v3.heap.size + 1) (by omega)
    replace x_d := x_d.aside (b' := (ngB (up X V))) (A' := A8) (n' := n8) (c' := c8) (g := v3.heap.size + 1) (by omega)
    replace x_r := x_r.aside (b' := (ngB (up X V))) (A' := A8) (n' := n8) (c' := c8) (g := v3.heap.size + 1) (by omega)
    replace x_l := x_l.aside (b' := (ngB (up X V))) (A' := A8) (n' := n8) (c' := c8) (g := v3.heap.size + 1) (by omega)
    replace x_e := x_e.aside (b' := (ngB (up X V))) (A' := A8) (n' := n8) (c' := c8) (g := v3.heap.size + 1) (by omega)
    replace x_p := x_p.aside (b' := (ngB (up X V))) (A' := A8) (n' := n8) (c' := c8) (g := v3.heap.size + 1) (by omega)
    replace x_t := x_t.aside (b' := (ngB (up X V))) (A' := A8) (n' := n8) (c' := c8) (g := v3.heap.size + 1) (by omega)
    replace zl := zl.put (b' := (ngB (up X V))) (A' := A8) (n' := n8) (c' := c8) x_u
    replace zu := zu.put (b' := (ngB (up X V))) (A' := A8) (n' := n8) (c' := c8) x_u
    replace x_s := x_s.aside (b' := (ngB (up X V))) (A' := A8) (n' := n8) (c' := c8) (g := v3.heap.size + 1) (by omega)
    replace z7 := z7.put (b' := (ngB (up X V))) (A' := A8) (n' := n8) (c' := c8) x_u
    replace z8 := z8.put (b' := (ngB (up X V))) (A' := A8) (n' := n8) (c' := c8) x_u
    replace hb := put_below (g := v3.heap.size + 1) hb (by omega) (.bool (ngB (up X V))) (.slice A8 n8 c8)
    replace x_u := x_u.put (ngB (up X V)) A8 n8 c8
    clear q_l q_u q_p q_t
    generalize (v10.setCell ⟨v3.heap.size + 1, 0, none⟩ (.bool (ngB (up X V)))).setCell ⟨v3.heap.size + 1, 1, none⟩ (.slice A8 n8 c8) = v11 at *
    have q_l := x_l.al
    have q_u := x_u.al
    have q_p := x_p.al
    have q_t := x_t.al
    go_roundw
    case rel => exact ⟨1, by omega, by go_num, hb, ⟨x_a, x_d, x_r, x_s⟩, _, _, _, _, _, _, _, _, x_l, by rw [HM1.out]; exact zl, x_u, by rw [HM2.out]; exact z8.zr⟩
    case measure => simp [intOf]
   ·have HM1 := Lib.hid m1; have HM2 := Lib.hid m2; clear m1 m2 i1 i2 hM2 hN2
    have q_l := x_l.al
    have q_u := x_u.al
    have s_0 := x_s.c 0 (.bool b) rfl
    have s_1 := x_s.c 1 (.slice A n c) rfl
    have s_2 := x_s.c 2 (.bool b4) rfl
    have s_3 := x_s.c 3 (.slice A4 n4 c4) rfl
    go_wp2_with fail
    clear s_0 s_1 s_2 s_3
    have hb1 := below_alloc wr (.cells #[.bool b, .slice A n c, .bool b4, .slice A4 n4 c4] 111)
    have l_a_e := x_a.lt
    have l_d_e := x_d.lt
    have l_r_e := x_r.lt
    have l_l_e := x_l.lt
    have l_u_e := x_u.lt
    have x_e := Ex.new wr b A n c b4 A4 n4 c4
    have e_e : w.heap.size ≤ wr.heap.size := hb.size
    clear q_l q_u
    obtain ⟨x_a, x_d, x_r, x_l, x_u, h, h2, h3, h4⟩ := mv9 hb1 x_a x_d x_r x_l x_u h h2 h3 h4
    obtain ⟨zl, zu, x_s⟩ := mv3 hb1 zl zu x_s
    replace hb := bthen hb hb1
    clear hb1
    generalize wr.alloc (.cells #[.bool b, .slice A n c, .bool b4, .slice A4 n4 c4] 111) = v6 at *
    have q_l := x_l.al
    have q_u := x_u.al
    have q_e := x_e.al
    have hbx := hb
    skip
    with_reducible refine (HAT.out _ _ _ _ _ _ _ _ _ X V hb h h4 (Or.inr rfl)).mono ?_
    rintro e v7 ⟨A7, n7, c7, A8, n8, c8, rfl, z7, z8, hb1⟩
    obtain ⟨x_a, x_d, x_r, x_l, x_u, x_e, h, h2, h3⟩ := mv9 hb1 x_a x_d x_r x_l x_u x_e h h2 h3
    obtain ⟨h4, zl, zu, x_s⟩ := mv4 hb1 h4 zl zu x_s
    replace hb := bthen hb hb1
    clear hb1
    replace q_l := x_l.al
    replace q_u := x_u.al
    replace q_e := x_e.al
    clear hbx
    clear h h2 h3 h4
    clear q_e
    have y_l := ((x_l.alloc (.cells #[.bool (ngB (dn X V)), .slice A7 n7 c7] 25)).alloc (.cells #[.bool (ngB (up X V)), .slice A8 n8 c8] 25)); have yq_l0 := y_l.c0; have yq_l1 := y_l.c1
    have y_u := ((x_u.alloc (.cells #[.bool (ngB (dn X V)), .slice A7 n7 c7] 25)).alloc (.cells #[.bool (ngB (up X V)), .slice A8 n8 c8] 25)); have yq_u0 := y_u.c0; have yq_u1 := y_u.c1
    go_wp2_with fail
    clear y_l yq_l0 yq_l1 y_u yq_u0 yq_u1
    have l_a_p := x_a.lt
    have l_d_p := x_d.lt
    have l_r_p := x_r.lt
    have l_l_p := x_l.lt
    have l_u_p := x_u.lt
    have l_e_p := x_e.lt
    have e_p : w.heap.size ≤ v7.heap.size := hb.size
    have hb1 := below_alloc2 v7 (.cells #[.bool (ngB (dn X V)), .slice A7 n7 c7] 25) (.cells #[.bool (ngB (up X V)), .slice A8 n8 c8] 25)
    have x_p := (Bx.new v7 (ngB (dn X V)) A7 n7 c7).alloc (.cells #[.bool (ngB (up X V)), .slice A8 n8 c8] 25)
    have x_t : Bx ((v7.alloc (.cells #[.bool (ngB (dn X V)), .slice A7 n7 c7] 25)).alloc (.cells #[.bool (ngB (up X V)), .slice A8 n8 c8] 25)) (v7.heap.size + 1) (ngB (up X V)) A8 n8 c8 := by have := Bx.new (v7.alloc (.cells #[.bool (ngB (dn X V)), .slice A7 n7 c7] 25)) (ngB (up X V)) A8 n8 c8; simpa using this
    clear q_l q_u
    obtain ⟨x_a, x_d, x_r, x_l, x_u, x_e, zl, zu, x_s⟩ := mv9 hb1 x_a x_d x_r x_l x_u x_e zl zu x_s
    obtain ⟨z7, z8⟩ := mv2 hb1 z7 z8
    replace hb := bthen hb hb1
    clear hb1
    generalize (v7.alloc (.cells #[.bool (ngB (dn X V)), .slice A7 n7 c7] 25)).alloc (.cells #[.bool (ngB (up X V)), .slice A8 n8 c8] 25) = v8 at *
    have q_l := x_l.al
    have q_u := x_u.al
    have q_p := x_p.al
    have q_t := x_t.al
    skip
    with_reducible refine (ZCmp_any z7.zr zl (by omega) (by omega)).mono ?_
    rintro e v9 ⟨rfl, hb1⟩
    obtain ⟨x_a, x_d, x_r, x_l, x_u, x_e, x_p, x_t, zl⟩ := mv9 hb1 x_a x_d x_r x_l x_u x_e x_p x_t zl
    obtain ⟨zu, x_s, z7, z8⟩ := mv4 hb1 zu x_s z7 z8
    replace hb := bthen hb hb1
    clear hb1
    replace q_l := x_l.al
    replace q_u := x_u.al
    replace q_p := x_p.al
    replace q_t := x_t.al
    rw [HC1.out]
    go_wp2_with fail
    with_reducible refine (ZCmp_any z8.zr zu (by omega) (by omega)).mono ?_
    rintro e v10 ⟨rfl, hb1⟩
    obtain ⟨x_a, x_d, x_r, x_l, x_u, x_e, x_p, x_t, zl⟩ := mv9 hb1 x_a x_d x_r x_l x_u x_e x_p x_t zl
    obtain ⟨zu, x_s, z7, z8⟩ := mv4 hb1 zu x_s z7 z8
    replace hb := bthen hb hb1
    clear hb1
    replace q_l := x_l.al
    replace q_u := x_u.al
    replace q_p := x_p.al
    replace q_t := x_t.al
    rw [HC2.out]
    go_wp2
    go_roundw
    case rel => exact ⟨1, by omega, by go_num, hb, ⟨x_a, x_d, x_r, x_s⟩, _, _, _, _, _, _, _, _, x_l, by rw [HM1.out]; exact zl, x_u, by rw [HM2.out]; exact zu⟩
    case measure => simp [intOf]
  ·obtain ⟨M, hM⟩ : ∃ M, mnK dn X Y U V 1 = M := ⟨_, rfl⟩
   obtain ⟨N, hN⟩ : ∃ N, mxK up X Y U V 1 = N := ⟨_, rfl⟩
   rw [hM] at zl; rw [hN] at zu
   have hM2 : mnK dn X Y U V 2 = min M (dn Y U) := by rw [← hM]; rfl
   have hN2 : mxK up X Y U V 2 = max N (up Y U) := by rw [← hN]; rfl
   clear hM hN
   obtain ⟨C1, hC1⟩ : ∃ C, sgnI (dn Y U - M) = C := ⟨_, rfl⟩
   obtain ⟨C2, hC2⟩ : ∃ C, sgnI (up Y U - N) = C := ⟨_, rfl⟩
   have i1 := sgnI_lt0 (X := dn Y U - M)
   have i2 := sgnI_gt0 (X := up Y U - N)
   rw [hC1] at i1; rw [hC2] at i2
   have HC1 := Lib.hid hC1; have HC2 := Lib.hid hC2; clear hC1 hC2
   rcases (show (C1 < 0 ∧ mnK dn X Y U V 2 = dn Y U) ∨ (0 ≤ C1 ∧ mnK dn X Y U V 2 = M) by rw [hM2]; omega) with ⟨d1, m1⟩ | ⟨d1, m1⟩ <;> rcases (show (0 < C2 ∧ mxK up X Y U V 2 = up Y U) ∨ (C2 ≤ 0 ∧ mxK up X Y U V 2 = N) by rw [hN2]; omega) with ⟨d2, m2⟩ | ⟨d2, m2⟩
   ·have HM1 := Lib.hid m1; have HM2 := Lib.hid m2; clear m1 m2 i1 i2 hM2 hN2
    have q_l := x_l.al
    have q_u := x_u.al
    have s_0 := x_s.c 4 (.bool b2) rfl
    have s_1 := x_s.c 5 (.slice A2 n2 c2) rfl
    have s_2 := x_s.c 6 (.bool b3) rfl
    have s_3 := x_s.c 7 (.slice A3 n3 c3) rfl
    go_wp2_with fail
    clear s_0 s_1 s_2 s_3
    have hb1 := below_alloc wr (.cells #[.bool b2, .slice A2 n2 c2, .bool b3, .slice A3 n3 c3] 111)
    have l_a_e := x_a.lt
    have l_d_e := x_d.lt
    have l_r_e := x_r.lt
    have l_l_e := x_l.lt
    have l_u_e := x_u.lt
    have x_e := Ex.new wr b2 A2 n2 c2 b3 A3 n3 c3
    have e_e : w.heap.size ≤ wr.heap.size := hb.size
    clear q_l q_u
    obtain ⟨x_a, x_d, x_r, x_l, x_u, h, h2, h3, h4⟩ := mv9 hb1 x_a x_d x_r x_l x_u h h2 h3 h4
    obtain ⟨zl, zu, x_s⟩ := mv3 hb1 zl zu x_s
    replace hb := bthen hb hb1
    clear hb1
    generalize wr.alloc (.cells #[.bool b2, .slice A2 n2 c2, .bool b3, .slice A3 n3 c3] 111) = v6 at *
    have q_l := x_l.al
    have q_u := x_u.al
    have q_e := x_e.al
    have hbx := hb
    skip
    with_reducible refine (HAT.out _ _ _ _ _ _ _ _ _ Y U hb h2 h3 (Or.inl rfl)).mono ?_
    rintro e v7 ⟨A7, n7, c7, A8, n8, c8, rfl, z7, z8, hb1⟩
    obtain ⟨x_a, x_d, x_r, x_l, x_u, x_e, h, h2, h3⟩ := mv9 hb1 x_a x_d x_r x_l x_u x_e h h2 h3
    obtain ⟨h4, zl, zu, x_s⟩ := mv4 hb1 h4 zl zu x_s
    replace hb := bthen hb hb1
    clear hb1
    replace q_l := x_l.al
    replace q_u := x_u.al
    replace q_e := x_e.al
    clear hbx
    clear h h2 h3 h4
    clear q_e
    have y_l := ((x_l.alloc (.cells #[.bool (ngB (dn Y U)), .slice A7 n7 c7] 25)).alloc (.cells #[.bool (ngB (up Y U)), .slice A8 n8 c8] 25)); have yq_l0 := y_l.c0; have yq_l1 := y_l.c1
    have y_u := ((x_u.alloc (.cells #[.bool (ngB (dn Y U)), .slice A7 n7 c7] 25)).alloc (.cells #[.bool (ngB (up Y U)), .slice A8 n8 c8] 25)); have yq_u0 := y_u.c0; have yq_u1 := y_u.c1
    go_wp2_with fail
    clear y_l yq_l0 yq_l1 y_u yq_u0 yq_u1
    have l_a_p := x_a.lt
    have l_d_p := x_d.lt
    have l_r_p := x_r.lt
    have l_l_p := x_l.lt
    have l_u_p := x_u.lt
    have l_e_p := x_e.lt
    have e_p : w.heap.size ≤ v7.heap.size := hb.size
    have hb1 := below_alloc2 v7 (.cells #[.bool (ngB (dn Y U)), .slice A7 n7 c7] 25) (.cells #[.bool (ngB (up Y U)), .slice A8 n8 c8] 25)
    have x_p := (Bx.new v7 (ngB (dn Y U)) A7 n7 c7).alloc (.cells #[.bool (ngB (up Y U)), .slice A8 n8 c8] 25)
    have x_t : Bx ((v7.alloc (.cells #[.bool (ngB (dn Y U)), .slice A7 n7 c7] 25)).alloc (.cells #[.bool (ngB (up Y U)), .slice A8 n8 c8] 25)) (v7.heap.size + 1) (ngB (up Y U)) A8 n8 c8 := by have := Bx.new (v7.alloc (.cells #[.bool (ngB (dn Y U)), .slice A7 n7 c7] 25)) (ngB (up Y U)) A8 n8 c8; simpa using this
    clear q_l q_u
    obtain ⟨x_a, x_d, x_r, x_l, x_u, x_e, zl, zu, x_s⟩ := mv9 hb1 x_a x_d x_r x_l x_u x_e zl zu x_s
    obtain ⟨z7, z8⟩ := mv2 hb1 z7 z8
    replace hb := bthen hb hb1
    clear hb1
    generalize (v7.alloc (.cells #[.bool (ngB (dn Y U)), .slice A7 n7 c7] 25)).alloc (.cells #[.bool (ngB (up Y U)), .slice A8 n8 c8] 25) = v8 at *
    have q_l := x_l.al
    have q_u := x_u.al
    have q_p := x_p.al
    have q_t := x_t.al
    skip
    with_reducible refine (ZCmp_any z7.zr zl (by omega) (by omega)).mono ?_
    rintro e v9 ⟨rfl, hb1⟩
    obtain ⟨x_a, x_d, x_r, x_l, x_u, x_e, x_p, x_t, zl⟩ := mv9 hb1 x_a x_d x_r x_l x_u x_e x_p x_t zl
    obtain ⟨zu, x_s, z7, z8⟩ := mv4 hb1 zu x_s z7 z8
    replace hb := bthen hb hb1
    clear hb1
    replace q_l := x_l.al
    replace q_u := x_u.al
    replace q_p := x_p.al
    replace q_t := x_t.al
    rw [HC1.out]
    go_wp2_with fail
    replace x_a := x_a.aside (b' := (ngB (dn Y U))) (A' := A7) (n' := n7) (c' := c7) (g := v3.heap.size) (by omega)
    replace x_d := x_d.aside (b' := (ngB (dn Y U))) (A' := A7) (n' := n7) (c' := c7) (g := v3.heap.size) (by omega)
    replace x_r := x_r.aside (b' := (ngB (dn Y U))) (A' := A7) (n' := n7) (c' := c7) (g := v3.heap.size) (by omega)
    replace x_u := x_u.aside (b' := (ngB (dn Y U))) (A' := A7) (n' := n7) (c' := c7) (g := v3.heap.size) (by omega)
    replace x_e := x_e.aside (b' := (ngB (dn Y U))) (A' := A7) (n' := n7) (c' := c7) (g := v3.heap.size) (by omega)
    replace x_p := x_p.aside (b' := (ngB (dn Y U))) (A' := A7) (n' := n7) (c' := c7) (g := v3.heap.size) (by omega)
    replace x_t := x_t.aside (b' := (ngB (dn Y U))) (A' := A7) (n' := n7) (c' := c7) (g := v3.heap.size) (by omega)
    replace zl := zl.put (b' := (ngB (dn Y U))) (A' := A7) (n' := n7) (c' := c7) x_l
    replace zu := zu.put (b' := (ngB (dn Y U))) (A' := A7) (n' := n7) (c' := c7) x_l
    replace x_s := x_s.aside (b' := (ngB (dn Y U))) (A' := A7) (n' := n7) (c' := c7) (g := v3.heap.size) (by omega)
    replace z7 := z7.put (b' := (ngB (dn Y U))) (A' := A7) (n' := n7) (c' := c7) x_l
    replace z8 := z8.put (b' := (ngB (dn Y U))) (A' := A7) (n' := n7) (c' := c7) x_l
    replace hb := put_below (g := v3.heap.size) hb (by omega) (.bool (ngB (dn Y U))) (.slice A7 n7 c7)
    replace x_l := x_l.put (ngB (dn Y U)) A7 n7 c7
    clear q_l q_u q_p q_t
    generalize (v9.setCell ⟨v3.heap.size, 0, none⟩ (.bool (ngB (dn Y U)))).setCell ⟨v3.heap.size, 1, none⟩ (.slice A7 n7 c7) = v10 at *
    have q_l := x_l.al
    have q_u := x_u.al
    have q_p := x_p.al
    have q_t := x_t.al
    skip
    with_reducible refine (ZCmp_any z8.zr zu (by omega) (by omega)).mono ?_
    rintro e v11 ⟨rfl, hb1⟩
    obtain ⟨x_a, x_d, x_r, x_l, x_u, x_e, x_p, x_t, zl⟩ := mv9 hb1 x_a x_d x_r x_l x_u x_e x_p x_t zl
    obtain ⟨zu, x_s, z7, z8⟩ := mv4 hb1 zu x_s z7 z8
    replace hb := bthen hb hb1
    clear hb1
    replace q_l := x_l.al
    replace q_u := x_u.al
    replace q_p := x_p.al
    replace q_t := x_t.al
    rw [HC2.out]
    go_wp2
    replace x_a := x_a.aside (b' := (ngB (up Y U))) (A' := A8) (n' := n8) (c' := c8) (g := v3.heap.size + 1) (by omega)
    replace x_d := x_d.aside (b' := (ngB (up Y U))) (A' := A8) (n' := n8) (c' := c8) (g := v3.heap.size + 1) (by omega)
    replace x_r := x_r.aside (b' := (ngB (up Y U))) (A' := A8) (n' := n8) (c' := c8) (g := v3.heap.size + 1) (by omega)
    replace x_l := x_l.aside (b' := (ngB (up Y U))) (A' := A8) (n' := n8) (c' := c8) (g := v3.heap.size + 1) (by omega)
    replace x_e := x_e.aside (b' := (ngB (up Y U))) (A' := A8) (n' := n8) (c' := c8) (g := v3.heap.size + 1) (by omega)
    replace x_p := x_p.aside (b' := (ngB (up Y U))) (A' := A8) (n' := n8) (c' := c8) (g := v3.heap.size + 1) (by omega)
    replace x_t := x_t.aside (b' := (ngB (up Y U))) (A' := A8) (n' := n8) (c' := c8) (g := v3.heap.size + 1) (by omega)
    replace zl := zl.put (b' := (ngB (up Y U))) (A' := A8) (n' := n8) (c' := c8) x_u
    replace zu := zu.put (b' := (ngB (up Y U))) (A' := A8) (n' := n8) (c' := c8) x_u
    replace x_s := x_s.aside (b' := (ngB (up Y U))) (A' := A8) (n' := n8) (c' := c8) (g := v3.heap.size + 1) (by omega)
    replace z7 := z7.put (b' := (ngB (up Y U))) (A' := A8) (n' := n8) (c' := c8) x_u
    replace z8 := z8.put (b' := (ngB (up Y U))) (A' := A8) (n' := n8) (c' := c8) x_u
    replace hb := put_below (g := v3.heap.size + 1) hb (by omega) (.bool (ngB (up Y U))) (.slice A8 n8 c8)
    replace x_u := x_u.put (ngB (up Y U)) A8 n8 c8
    clear q_l q_u q_p q_t
    generalize (v11.setCell ⟨v3.heap.size + 1, 0, none⟩ (.bool (ngB (up Y U)))).setCell ⟨v3.heap.size + 1, 1, none⟩ (.slice A8 n8 c8) = v12 at *
    have q_l := x_l.al
    have q_u := x_u.al
    have q_p := x_p.al
    have q_t := x_t.al
    go_roundw
    case rel => exact ⟨2, by omega, by go_num, hb, ⟨x_a, x_d, x_r, x_s⟩, _, _, _, _, _, _, _, _, x_l, by rw [HM1.out]; exact z7.zr, x_u, by rw [HM2.out]; exact z8.zr⟩
    case measure => simp [intOf]
   ·have HM1 := Lib.hid m1; have HM2 := Lib.hid m2; clear m1 m2 i1 i2 hM2 hN2
    have q_l := x_l.al
    have q_u := x_u.al
    have s_0 := x_s.c 4 (.bool b2) rfl
    have s_1 := x_s.c 5 (.slice A2 n2 c2) rfl
    have s_2 := x_s.c 6 (.bool b3) rfl
    have s_3 := x_s.c 7 (.slice A3 n3 c3) rfl
    go_wp2_with fail
    clear s_0 s_1 s_2 s_3
    have hb1 := below_alloc wr (.cells #[.bool b2, .slice A2 n2 c2, .bool b3, .slice A3 n3 c3] 111)
    have l_a_e := x_a.lt
    have l_d_e := x_d.lt
    have l_r_e := x_r.lt
    have l_l_e := x_l.lt
    have l_u_e := x_u.lt
    have x_e := Ex.new wr b2 A2 n2 c2 b3 A3 n3 c3
    have e_e : w.heap.size ≤ wr.heap.size := hb.size
    clear q_l q_u
    obtain ⟨x_a, x_d, x_r, x_l, x_u, h, h2, h3, h4⟩ := mv9 hb1 x_a x_d x_r x_l x_u h h2 h3 h4
    obtain ⟨zl, zu, x_s⟩ := mv3 hb1 zl zu x_s
    replace hb := bthen hb hb1
    clear hb1
    generalize wr.alloc (.cells #[.bool b2, .slice A2 n2 c2, .bool b3, .slice A3 n3 c3] 111) = v6 at *
    have q_l := x_l.al
    have q_u := x_u.al
    have q_e := x_e.al
    have hbx := hb
    skip
    with_reducible refine (HAT.out _ _ _ _ _ _ _ _ _ Y U hb h2 h3 (Or.inl rfl)).mono ?_
    rintro e v7 ⟨A7, n7, c7, A8, n8, c8, rfl, z7, z8, hb1⟩
    obtain ⟨x_a, x_d, x_r, x_l, x_u, x_e, h, h2, h3⟩ := mv9 hb1 x_a x_d x_r x_l x_u x_e h h2 h3
    obtain ⟨h4, zl, zu, x_s⟩ := mv4 hb1 h4 zl zu x_s
    replace hb := bthen hb hb1
    clear hb1
    replace q_l := x_l.al
    replace q_u := x_u.al
    replace q_e := x_e.al
    clear hbx
    clear h h2 h3 h4
    clear q_e
    have y_l := ((x_l.alloc (.cells #[.bool (ngB (dn Y U)), .slice A7 n7 c7] 25)).alloc (.cells #[.bool (ngB (up Y U)), .slice A8 n8 c8] 25)); have yq_l0 := y_l.c0; have yq_l1 := y_l.c1
    have y_u := ((x_u.alloc (.cells #[.bool (ngB (dn Y U)), .slice A7 n7 c7] 25)).alloc (.cells #[.bool (ngB (up Y U)), .slice A8 n8 c8] 25)); have yq_u0 := y_u.c0; have yq_u1 := y_u.c1
    go_wp2_with fail
    clear y_l yq_l0 yq_l1 y_u yq_u0 yq_u1
    have l_a_p := x_a.lt
    have l_d_p := x_d.lt
    have l_r_p := x_r.lt
    have l_l_p := x_l.lt
    have l_u_p := x_u.lt
    have l_e_p := x_e.lt
    have e_p : w.heap.size ≤ v7.heap.size := hb.size
    have hb1 := below_alloc2 v7 (.cells #[.bool (ngB (dn Y U)), .slice A7 n7 c7] 25) (.cells #[.bool (ngB (up Y U)), .slice A8 n8 c8] 25)
    have x_p := (Bx.new v7 (ngB (dn Y U)) A7 n7 c7).alloc (.cells #[.bool (ngB (up Y U)), .slice A8 n8 c8] 25)
    have x_t : Bx ((v7.alloc (.cells #[.bool (ngB (dn Y U)), .slice A7 n7 c7] 25)).alloc (.cells #[.bool (ngB (up Y U)), .slice A8 n8 c8] 25)) (v7.heap.size + 1) (ngB (up Y U)) A8 n8 c8 := by have := Bx.new (v7.alloc (.cells #[.bool (ngB (dn Y U)), .slice A7 n7 c7] 25)) (ngB (up Y U)) A8 n8 c8; simpa using this
    clear q_l q_u
    obtain ⟨x_a, x_d, x_r, x_l, x_u, x_e, zl, zu, x_s⟩ := mv9 hb1 x_a x_d x_r x_l x_u x_e zl zu x_s
    obtain ⟨z7, z8⟩ := mv2 hb1 z7 z8
    replace hb := bthen hb hb1
    clear hb1
    generalize (v7.alloc (.cells #[.bool (ngB (dn Y U)), .slice A7 n7 c7] 25)).alloc (.cells #[.bool (ngB (up Y U)), .slice A8 n8 c8] 25) = v8 at *
    have q_l := x_l.al
    have q_u := x_u.al
    have q_p := x_p.al
    have q_t := x_t.al
    skip
    with_reducible refine (ZCmp_any z7.zr zl (by omega) (by omega)).mono ?_
    rintro e v9 ⟨rfl, hb1⟩
    obtain ⟨x_a, x_d, x_r, x_l, x_u, x_e, x_p, x_t, zl⟩ := mv9 hb1 x_a x_d x_r x_l x_u x_e x_p x_t zl
    obtain ⟨zu, x_s, z7, z8⟩ := mv4 hb1 zu x_s z7 z8
    replace hb := bthen hb hb1
    clear hb1
    replace q_l := x_l.al
    replace q_u := x_u.al
    replace q_p := x_p.al
    replace q_t := x_t.al
    rw [HC1.out]
    go_wp2_with fail
    replace x_a := x_a.aside (b' := (ngB (dn Y U))) (A' := A7) (n' := n7) (c' := c7) (g := v3.heap.size) (by omega)
    replace x_d := x_d.aside (b' := (ngB (dn Y U))) (A' := A7) (n' := n7) (c' := c7) (g := v3.heap.size) (by omega)
    replace x_r := x_r.aside (b' := (ngB (dn Y U))) (A' := A7) (n' := n7) (c' := c7) (g := v3.heap.size) (by omega)
    replace x_u := x_u.aside (b' := (ngB (dn Y U))) (A' := A7) (n' := n7) (c' := c7) (g := v3.heap.size) (by omega)
    replace x_e := x_e.aside (b' := (ngB (dn Y U))) (A' := A7) (n' := n7) (c' := c7) (g := v3.heap.size) (by omega)
    replace x_p := x_p.aside (b' := (ngB (dn Y U))) (A' := A7) (n' := n7) (c' := c7) (g := v3.heap.size) (by omega)
    replace x_t := x_t.aside (b' := (ngB (dn Y U))) (A' := A7) (n' := n7) (c' := c7) (g := v3.heap.size) (by omega)
    replace zl := zl.put (b' := (ngB (dn Y U))) (A' := A7) (n' := n7) (c' := c7) x_l
    replace zu := zu.put (b' := (ngB (dn Y U))) (A' := A7) (n' := n7) (c' := c7) x_l
    replace x_s := x_s.aside (b' := (ngB (dn Y U))) (A' := A7) (n' := n7) (c' := c7) (g := v3.heap.size) (by omega)
    replace z7 := z7.put (b' := (ngB (dn Y U))) (A' := A7) (n' := n7) (c' := c7) x_l
    replace z8 := z8.put (b' := (ngB (dn Y U))) (A' := A7) (n' := n7) (c' := c7) x_l
    replace hb := put_below (g := v3.heap.size) hb (by omega) (.bool (ngB (dn Y U))) (.slice A7 n7 c7)
    replace x_l := x_l.put (ngB (dn Y U)) A7 n7 c7
    clear q_l q_u q_p q_t
    generalize (v9.setCell ⟨v3.heap.size, 0, none⟩ (.bool (ngB (dn Y U)))).setCell ⟨v3.heap.size, 1, none⟩ (.slice A7 n7 c7) = v10 at *
    have q_l := x_l.al
    have q_u := x_u.al
    have q_p := x_p.al
    have q_t := x_t.al
    skip
    with_reducible refine (ZCmp_any z8.zr zu (by omega) (by omega)).mono ?_
    rintro e v11 ⟨rfl, hb1⟩
    obtain ⟨x_a, x_d, x_r, x_l, x_u, x_e, x_p, x_t, zl⟩ := mv9 hb1 x_a x_d x_r x_l x_u x_e x_p x_t zl
    obtain ⟨zu, x_s, z7, z8⟩ := mv4 hb1 zu x_s z7 z8
    replace hb := bthen hb hb1
    clear hb1
    replace q_l := x_l.al
    replace q_u := x_u.al
    replace q_p := x_p.al
    replace q_t := x_t.al
    rw [HC2.out]
    go_wp2
    go_roundw
    case rel => exact ⟨2, by omega, by go_num, hb, ⟨x_a, x_d, x_r, x_s⟩, _, _, _, _, _, _, _, _, x_l, by rw [HM1.out]; exact z7.zr, x_u, by rw [HM2.out]; exact zu⟩
    case measure => simp [intOf]
   ·have HM1 := Lib.hid m1; have HM2 := Lib.hid m2; clear m1 m2 i1 i2 hM2 hN2
    have q_l := x_l.al
    have q_u := x_u.al
    have s_0 := x_s.c 4 (.bool b2) rfl
    have s_1 := x_s.c 5 (.slice A2 n2 c2) rfl
    have s_2 := x_s.c 6 (.bool b3) rfl
    have s_3 := x_s.c 7 (.slice A3 n3 c3) rfl
    go_wp2_with fail
    clear s_0 s_1 s_2 s_3
    have hb1 := below_alloc wr (.cells #[.bool b2, .slice A2 n2 c2, .bool b3, .slice A3 n3 c3] 111)
    have l_a_e := x_a.lt
    have l_d_e := x_d.lt
    have l_r_e := x_r.lt
    have l_l_e := x_l.lt
    have l_u_e := x_u.lt
    have x_e := Ex.new wr b2 A2 n2 c2 b3 A3 n3 c3
    have e_e : w.heap.size ≤ wr.heap.size := hb.size
    clear q_l q_u
    obtain ⟨x_a, x_d, x_r, x_l, x_u, h, h2, h3, h4⟩ := mv9 hb1 x_a x_d x_r x_l x_u h h2 h3 h4
    obtain ⟨zl, zu, x_s⟩ := mv3 hb1 zl zu x_s
    replace hb := bthen hb hb1
    clear hb1
    generalize wr.alloc (.cells #[.bool b2, .slice A2 n2 c2, .bool b3, .slice A3 n3 c3] 111) = v6 at *
    have q_l := x_l.al
    have q_u := x_u.al
    have q_e := x_e.al
    have hbx := hb
    skip
    with_reducible refine (HAT.out _ _ _ _ _ _ _ _ _ Y U hb h2 h3 (Or.inl rfl)).mono ?_
    rintro e v7 ⟨A7, n7, c7, A8, n8, c8, rfl, z7, z8, hb1⟩
    obtain ⟨x_a, x_d, x_r, x_l, x_u, x_e, h, h2, h3⟩ := mv9 hb1 x_a x_d x_r x_l x_u x_e h h2 h3
    obtain ⟨h4, zl, zu, x_s⟩ := mv4 hb1 h4 zl zu x_s
    replace hb := bthen hb hb1
    clear hb1
    replace q_l := x_l.al
    replace q_u := x_u.al
    replace q_e := x_e.al
    clear hbx
    clear h h2 h3 h4
    clear q_e
    have y_l := ((x_l.alloc (.cells #[.bool (ngB (dn Y U)), .slice A7 n7 c7] 25)).alloc (.cells #[.bool (ngB (up Y U)), .slice A8 n8 c8] 25)); have yq_l0 := y_l.c0; have yq_l1 := y_l.c1
    have y_u := ((x_u.alloc (.cells #[.bool (ngB (dn Y U)), .slice A7 n7 c7] 25)).alloc (.cells #[.bool (ngB (up Y U)), .slice A8 n8 c8] 25)); have yq_u0 := y_u.c0; have yq_u1 := y_u.c1
    go_wp2_with fail
    clear y_l yq_l0 yq_l1 y_u yq_u0 yq_u1
    have l_a_p := x_a.lt
    have l_d_p := x_d.lt
    have l_r_p := x_r.lt
    have l_l_p := x_l.lt
    have l_u_p := x_u.lt
    have l_e_p := x_e.lt
    have e_p : w.heap.size ≤ v7.heap.size := hb.size
    have hb1 := below_alloc2 v7 (.cells #[.bool (ngB (dn Y U)), .slice A7 n7 c7] 25) (.cells #[.bool (ngB (up Y U)), .slice A8 n8 c8] 25)
    have x_p := (Bx.new v7 (ngB (dn Y U)) A7 n7 c7).alloc (.cells #[.bool (ngB (up Y U)), .slice A8 n8 c8] 25)
    have x_t : Bx ((v7.alloc (.cells #[.bool (ngB (dn Y U)), .slice A7 n7 c7] 25)).alloc (.cells #[.bool (ngB (up Y U)), .slice A8 n8 c8] 25)) (v7.heap.size + 1) (ngB (up Y U)) A8 n8 c8 := by have := Bx.new (v7.alloc (.cells #[.bool (ngB (dn Y U)), .slice A7 n7 c7] 25)) (ngB (up Y U)) A8 n8 c8; simpa using this
    clear q_l q_u
    obtain ⟨x_a, x_d, x_r, x_l, x_u, x_e, zl, zu, x_s⟩ := mv9 hb1 x_a x_d x_r x_l x_u x_e zl zu x_s
    obtain ⟨z7, z8⟩ := mv2 hb1 z7 z8
    replace hb := bthen hb hb1
    clear hb1
    generalize (v7.alloc (.cells #[.bool (ngB (dn Y U)), .slice A7 n7 c7] 25)).alloc (.cells #[.bool (ngB (up Y U)), .slice A8 n8 c8] 25) = v8 at *
    have q_l := x_l.al
    have q_u := x_u.al
    have q_p := x_p.al
    have q_t := x_t.al
    skip
    with_reducible refine (ZCmp_any z7.zr zl (by omega) (by omega)).mono ?_
    rintro e v9 ⟨rfl, hb1⟩
    obtain ⟨x_a, x_d, x_r, x_l, x_u, x_e, x_p, x_t, zl⟩ := mv9 hb1 x_a x_d x_r x_l x_u x_e x_p x_t zl
    obtain ⟨zu, x_s, z7, z8⟩ := mv4 hb1 zu x_s z7 z8
    replace hb := bthen hb hb1
    clear hb1
    replace q_l := x_l.al
    replace q_u := x_u.al
    replace q_p := x_p.al
    replace q_t := x_t.al
    rw [HC1.out]
    go_wp2_with fail
    with_reducible refine (ZCmp_any z8.zr zu (by omega) (by omega)).mono ?_
    rintro e v10 ⟨rfl, hb1⟩
    obtain ⟨x_a, x_d, x_r, x_l, x_u, x_e, x_p, x_t, zl⟩ := mv9 hb1 x_a x_d x_r x_l x_u x_e x_p x_t zl
    obtain ⟨zu, x_s, z7, z8⟩ := mv4 hb1 zu x_s z7 z8
    replace hb := bthen hb hb1
    clear hb1
    replace q_l := x_l.al
    replace q_u := x_u.al
    replace q_p := x_p.al
    replace q_t := x_t.al
    rw [HC2.out]
    go_wp2
    replace x_a := x_a.aside (b' := (ngB (up Y U))) (A' := A8) (n' := n8) (c' := c8) (g := v3.heap.size + 1) (by omega)
    replace x_d := x_d.aside (b' := (ngB (up Y U))) (A' := A8) (n' := n8) (c' := c8) (g := v3.heap.size + 1) (by omega)
    replace x_r := x_r.aside (b' := (ngB (up Y U))) (A' := A8) (n' := n8) (c' := c8) (g := v3.heap.size + 1) (by omega)
    replace x_l := x_l.aside (b' := (ngB (up Y U))) (A' := A8) (n' := n8) (c' := c8) (g := v3.heap.size + 1) (by omega)
    replace x_e := x_e.aside (b' := (ngB (up Y U))) (A' := A8) (n' := n8) (c' := c8) (g := v3.heap.size + 1) (by omega)
    replace x_p := x_p.aside (b' := (ngB (up Y U))) (A' := A8) (n' := n8) (c' := c8) (g := v3.heap.size + 1) (by omega)
    replace x_t := x_t.aside (b' := (ngB (up Y U))) (A' := A8) (n' := n8) (c' := c8) (g := v3.heap.size + 1) (by omega)
    replace zl := zl.put (b' := (ngB (up Y U))) (A' := A8) (n' := n8) (c' := c8) x_u
    replace zu := zu.put (b' := (ngB (up Y U))) (A' := A8) (n' := n8) (c' := c8) x_u
    replace x_s := x_s.aside (b' := (ngB (up Y U))) (A' := A8) (n' := n8) (c' := c8) (g := v3.heap.size + 1) (by omega)
    replace z7 := z7.put (b' := (ngB (up Y U))) (A' := A8) (n' := n8) (c' := c8) x_u
    replace z8 := z8.put (b' := (ngB (up Y U))) (A' := A8) (n' := n8) (c' := c8) x_u
    replace hb := put_below (g := v3.heap.size + 1) hb (by omega) (.bool (ngB (up Y U))) (.slice A8 n8 c8)
    replace x_u := x_u.put (ngB (up Y U)) A8 n8 c8
    clear q_l q_u q_p q_t
    generalize (v10.setCell ⟨v3.heap.size + 1, 0, none⟩ (.bool (ngB (up Y U)))).setCell ⟨v3.heap.size + 1, 1, none⟩ (.slice A8 n8 c8) = v11 at *
    have q_l := x_l.al
    have q_u := x_u.al
    have q_p := x_p.al
    have q_t := x_t.al
    go_roundw
    case rel => exact ⟨2, by omega, by go_num, hb, ⟨x_a, x_d, x_r, x_s⟩, _, _, _, _, _, _, _, _, x_l, by rw [HM1.out]; exact zl, x_u, by rw [HM2.out]; exact z8.zr⟩
    case measure => simp [intOf]
   ·have HM1 := Lib.hid m1; have HM2 := Lib.hid m2; clear m1 m2 i1 i2 hM2 hN2
    have q_l := x_l.al
    have q_u := x_u.al
    have s_0 := x_s.c 4 (.bool b2) rfl
    have s_1 := x_s.c 5 (.slice A2 n2 c2) rfl
    have s_2 := x_s.c 6 (.bool b3) rfl
    have s_3 := x_s.c 7 (.slice A3 n3 c3) rfl
    go_wp2_with fail
    clear s_0 s_1 s_2 s_3
    have hb1 := below_alloc wr (.cells #[.bool b2, .slice A2 n2 c2, .bool b3, .slice A3 n3 c3] 111)
    have l_a_e := x_a.lt
    have l_d_e := x_d.lt
    have l_r_e := x_r.lt
    have l_l_e := x_l.lt
    have l_u_e := x_u.lt
    have x_e := Ex.new wr b2 A2 n2 c2 b3 A3 n3 c3
    have e_e : w.heap.size ≤ wr.heap.size := hb.size
    clear q_l q_u
    obtain ⟨x_a, x_d, x_r, x_l, x_u, h, h2, h3, h4⟩ := mv9 hb1 x_a x_d x_r x_l x_u h h2 h3 h4
    obtain ⟨zl, zu, x_s⟩ := mv3 hb1 zl zu x_s
    replace hb := bthen hb hb1
    clear hb1
    generalize wr.alloc (.cells #[.bool b2, .slice A2 n2 c2, .bool b3, .slice A3 n3 c3] 111) = v6 at *
    have q_l := x_l.al
    have q_u := x_u.al
    have q_e := x_e.al
    have hbx := hb
    skip
    with_reducible refine (HAT.out _ _ _ _ _ _ _ _ _ Y U hb h2 h3 (Or.inl rfl)).mono ?_
    rintro e v7 ⟨A7, n7, c7, A8, n8, c8, rfl, z7, z8, hb1⟩
    obtain ⟨x_a, x_d, x_r, x_l, x_u, x_e, h, h2, h3⟩ := mv9 hb1 x_a x_d x_r x_l x_u x_e h h2 h3
    obtain ⟨h4, zl, zu, x_s⟩ := mv4 hb1 h4 zl zu x_s
    replace hb := bthen hb hb1
    clear hb1
    replace q_l := x_l.al
    replace q_u := x_u.al
    replace q_e := x_e.al
    clear hbx
    clear h h2 h3 h4
    clear q_e
    have y_l := ((x_l.alloc (.cells #[.bool (ngB (dn Y U)), .slice A7 n7 c7] 25)).alloc (.cells #[.bool (ngB (up Y U)), .slice A8 n8 c8] 25)); have yq_l0 := y_l.c0; have yq_l1 := y_l.c1
    have y_u := ((x_u.alloc (.cells #[.bool (ngB (dn Y U)), .slice A7 n7 c7] 25)).alloc (.cells #[.bool (ngB (up Y U)), .slice A8 n8 c8] 25)); have yq_u0 := y_u.c0; have yq_u1 := y_u.c1
    go_wp2_with fail
    clear y_l yq_l0 yq_l1 y_u yq_u0 yq_u1
    have l_a_p := x_a.lt
    have l_d_p := x_d.lt
    have l_r_p := x_r.lt
    have l_l_p := x_l.lt
    have l_u_p := x_u.lt
    have l_e_p := x_e.lt
    have e_p : w.heap.size ≤ v7.heap.size := hb.size
    have hb1 := below_alloc2 v7 (.cells #[.bool (ngB (dn Y U)), .slice A7 n7 c7] 25) (.cells #[.bool (ngB (up Y U)), .slice A8 n8 c8] 25)
    have x_p := (Bx.new v7 (ngB (dn Y U)) A7 n7 c7).alloc (.cells #[.bool (ngB (up Y U)), .slice A8 n8 c8] 25)
    have x_t : Bx ((v7.alloc (.cells #[.bool (ngB (dn Y U)), .slice A7 n7 c7] 25)).alloc (.cells #[.bool (ngB (up Y U)), .slice A8 n8 c8] 25)) (v7.heap.size + 1) (ngB (up Y U)) A8 n8 c8 := by have := Bx.new (v7.alloc (.cells #[.bool (ngB (dn Y U)), .slice A7 n7 c7] 25)) (ngB (up Y U)) A8 n8 c8; simpa using this
    clear q_l q_u
    obtain ⟨x_a, x_d, x_r, x_l, x_u, x_e, zl, zu, x_s⟩ := mv9 hb1 x_a x_d x_r x_l x_u x_e zl zu x_s
    obtain ⟨z7, z8⟩ := mv2 hb1 z7 z8
    replace hb := bthen hb hb1
    clear hb1
    generalize (v7.alloc (.cells #[.bool (ngB (dn Y U)), .slice A7 n7 c7] 25)).alloc (.cells #[.bool (ngB (up Y U)), .slice A8 n8 c8] 25) = v8 at *
    have q_l := x_l.al
    have q_u := x_u.al
    have q_p := x_p.al
    have q_t := x_t.al
    skip
    with_reducible refine (ZCmp_any z7.zr zl (by omega) (by omega)).mono ?_
    rintro e v9 ⟨rfl, hb1⟩
    obtain ⟨x_a, x_d, x_r, x_l, x_u, x_e, x_p, x_t, zl⟩ := mv9 hb1 x_a x_d x_r x_l x_u x_e x_p x_t zl
    obtain ⟨zu, x_s, z7, z8⟩ := mv4 hb1 zu x_s z7 z8
    replace hb := bthen hb hb1
    clear hb1
    replace q_l := x_l.al
    replace q_u := x_u.al
    replace q_p := x_p.al
    replace q_t := x_t.al
    rw [HC1.out]
    go_wp2_with fail
    with_reducible refine (ZCmp_any z8.zr zu (by omega) (by omega)).mono ?_
    rintro e v10 ⟨rfl, hb1⟩
    obtain ⟨x_a, x_d, x_r, x_l, x_u, x_e, x_p, x_t, zl⟩ := mv9 hb1 x_a x_d x_r x_l x_u x_e x_p x_t zl
    obtain ⟨zu, x_s, z7, z8⟩ := mv4 hb1 zu x_s z7 z8
    replace hb := bthen hb hb1
    clear hb1
    replace q_l := x_l.al
    replace q_u := x_u.al
    replace q_p := x_p.al
    replace q_t := x_t.al
    rw [HC2.out]
    go_wp2
    go_roundw
    case rel => exact ⟨2, by omega, by go_num, hb, ⟨x_a, x_d, x_r, x_s⟩, _, _, _, _, _, _, _, _, x_l, by rw [HM1.out]; exact zl, x_u, by rw [HM2.out]; exact zu⟩
    case measure => simp [intOf]
  ·obtain ⟨M, hM⟩ : ∃ M, mnK dn X Y U V 2 = M := ⟨_, rfl⟩
   obtain ⟨N, hN⟩ : ∃ N, mxK up X Y U V 2 = N := ⟨_, rfl⟩
   rw [hM] at zl; rw [hN] at zu
   have hM2 : mnK dn X Y U V 3 = min M (dn Y V) := by rw [← hM]; rfl
   have hN2 : mxK up X Y U V 3 = max N (up Y V) := by rw [← hN]; rfl
   clear hM hN
   obtain ⟨C1, hC1⟩ : ∃ C, sgnI (dn Y V - M) = C := ⟨_, rfl⟩
   obtain ⟨C2, hC2⟩ : ∃ C, sgnI (up Y V - N) = C := ⟨_, rfl⟩
   have i1 := sgnI_lt0 (X := dn Y V - M)
   have i2 := sgnI_gt0 (X := up Y V - N)
   rw [hC1] at i1; rw [hC2] at i2
   have HC1 := Lib.hid hC1; have HC2 := Lib.hid hC2; clear hC1 hC2
   rcases (show (C1 < 0 ∧ mnK dn X Y U V 3 = dn Y V) ∨ (0 ≤ C1 ∧ mnK dn X Y U V 3 = M) by rw [hM2]; omega) with ⟨d1, m1⟩ | ⟨d1, m1⟩ <;> rcases (show (0 < C2 ∧ mxK up X Y U V 3 = up Y V) ∨ (C2 ≤ 0 ∧ mxK up X Y U V 3 = N) by rw [hN2]; omega) with ⟨d2, m2⟩ | ⟨d2, m2⟩
   ·have HM1 := Lib.hid m1; have HM2 := Lib.hid m2; clear m1 m2 i1 i2 hM2 hN2
    have q_l := x_l.al
    have q_u := x_u.al
    have s_0 := x_s.c 8 (.bool b2) rfl
    have s_1 := x_s.c 9 (.slice A2 n2 c2) rfl
    have s_2 := x_s.c 10 (.bool b4) rfl
    have s_3 := x_s.c 11 (.slice A4 n4 c4) rfl
    go_wp2_with fail
    clear s_0 s_1 s_2 s_3
    have hb1 := below_alloc wr (.cells #[.bool b2, .slice A2 n2 c2, .bool b4, .slice A4 n4 c4] 111)
    have l_a_e := x_a.lt
    have l_d_e := x_d.lt
    have l_r_e := x_r.lt
    have l_l_e := x_l.lt
    have l_u_e := x_u.lt
    have x_e := Ex.new wr b2 A2 n2 c2 b4 A4 n4 c4
    have e_e : w.heap.size ≤ wr.heap.size := hb.size
    clear q_l q_u
    obtain ⟨x_a, x_d, x_r, x_l, x_u, h, h2, h3, h4⟩ := mv9 hb1 x_a x_d x_r x_l x_u h h2 h3 h4
    obtain ⟨zl, zu, x_s⟩ := mv3 hb1 zl zu x_s
    replace hb := bthen hb hb1
    clear hb1
    generalize wr.alloc (.cells #[.bool b2, .slice A2 n2 c2, .bool b4, .slice A4 n4 c4] 111) = v6 at *
    have q_l := x_l.al
    have q_u := x_u.al
    have q_e := x_e.al
    have hbx := hb
    skip
    with_reducible refine (HAT.out _ _ _ _ _ _ _ _ _ Y V hb h2 h4 (Or.inr rfl)).mono ?_
    rintro e v7 ⟨A7, n7, c7, A8, n8, c8, rfl, z7, z8, hb1⟩
    obtain ⟨x_a, x_d, x_r, x_l, x_u, x_e, h, h2, h3⟩ := mv9 hb1 x_a x_d x_r x_l x_u x_e h h2 h3
    obtain ⟨h4, zl, zu, x_s⟩ := mv4 hb1 h4 zl zu x_s
    replace hb := bthen hb hb1
    clear hb1
    replace q_l := x_l.al
    replace q_u := x_u.al
    replace q_e := x_e.al
    clear hbx
    clear h h2 h3 h4
    clear q_e
    have y_l := ((x_l.alloc (.cells #[.bool (ngB (dn Y V)), .slice A7 n7 c7] 25)).alloc (.cells #[.bool (ngB (up Y V)), .slice A8 n8 c8] 25)); have yq_l0 := y_l.c0; have yq_l1 := y_l.c1
    have y_u := ((x_u.alloc (.cells #[.bool (ngB (dn Y V)), .slice A7 n7 c7] 25)).alloc (.cells #[.bool (ngB (up Y V)), .slice A8 n8 c8] 25)); have yq_u0 := y_u.c0; have yq_u1 := y_u.c1
    go_wp2_with fail
    clear y_l yq_l0 yq_l1 y_u yq_u0 yq_u1
    have l_a_p := x_a.lt
    have l_d_p := x_d.lt
    have l_r_p := x_r.lt
    have l_l_p := x_l.lt
    have l_u_p := x_u.lt
    have l_e_p := x_e.lt
    have e_p : w.heap.size ≤ v7.heap.size := hb.size
    have hb1 := below_alloc2 v7 (.cells #[.bool (ngB (dn Y V)), .slice A7 n7 c7] 25) (.cells #[.bool (ngB (up Y V)), .slice A8 n8 c8] 25)
    have x_p := (Bx.new v7 (ngB (dn Y V)) A7 n7 c7).alloc (.cells #[.bool (ngB (up Y V)), .slice A8 n8 c8] 25)
    have x_t : Bx ((v7.alloc (.cells #[.bool (ngB (dn Y V)), .slice A7 n7 c7] 25)).alloc (.cells #[.bool (ngB (up Y V)), .slice A8 n8 c8] 25)) (v7.heap.size + 1) (ngB (up Y V)) A8 n8 c8 := by have := Bx.new (v7.alloc (.cells #[.bool (ngB (dn Y V)), .slice A7 n7 c7] 25)) (ngB (up Y V)) A8 n8 c8; simpa using this
    clear q_l q_u
    obtain ⟨x_a, x_d, x_r, x_l, x_u, x_e, zl, zu, x_s⟩ := mv9 hb1 x_a x_d x_r x_l x_u x_e zl zu x_s
    obtain ⟨z7, z8⟩ := mv2 hb1 z7 z8
    replace hb := bthen hb hb1
    clear hb1
    generalize (v7.alloc (.cells #[.bool (ngB (dn Y V)), .slice A7 n7 c7] 25)).alloc (.cells #[.bool (ngB (up Y V)), .slice A8 n8 c8] 25) = v8 at *
    have q_l := x_l.al
    have q_u := x_u.al
    have q_p := x_p.al
    have q_t := x_t.al
    skip
    with_reducible refine (ZCmp_any z7.zr zl (by omega) (by omega)).mono ?_
    rintro e v9 ⟨rfl, hb1⟩
    obtain ⟨x_a, x_d, x_r, x_l, x_u, x_e, x_p, x_t, zl⟩ := mv9 hb1 x_a x_d x_r x_l x_u x_e x_p x_t zl
    obtain ⟨zu, x_s, z7, z8⟩ := mv4 hb1 zu x_s z7 z8
    replace hb := bthen hb hb1
    clear hb1
    replace q_l := x_l.al
    replace q_u := x_u.al
    replace q_p := x_p.al
    replace q_t := x_t.al
    rw [HC1.out]
    go_wp2_with fail
    replace x_a := x_a.aside (b' := (ngB (dn Y V))) (A' := A7) (n' := n7) (c' := c7) (g := v3.heap.size) (by omega)
    replace x_d := x_d.aside (b' := (ngB (dn Y V))) (A' := A7) (n' := n7) (c' := c7) (g := v3.heap.size) (by omega)
    replace x_r := x_r.aside (b' := (ngB (dn Y V))) (A' := A7) (n' := n7) (c' := c7) (g := v3.heap.size) (by omega)
    replace x_u := x_u.aside (b' := (ngB (dn Y V))) (A' := A7) (n' := n7) (c' := c7) (g := v3.heap.size) (by omega)
    replace x_e := x_e.aside (b' := (ngB (dn Y V))) (A' := A7) (n' := n7) (c' := c7) (g := v3.heap.size) (by omega)
    replace x_p := x_p.aside (b' := (ngB (dn Y V))) (A' := A7) (n' := n7) (c' := c7) (g := v3.heap.size) (by omega)
    replace x_t := x_t.aside (b' := (ngB (dn Y V))) (A' := A7) (n' := n7) (c' := c7) (g := v3.heap.size) (by omega)
    replace zl := zl.put (b' := (ngB (dn Y V))) (A' := A7) (n' := n7) (c' := c7) x_l
    replace zu := zu.put (b' := (ngB (dn Y V))) (A' := A7) (n' := n7) (c' := c7) x_l
    replace x_s := x_s.aside (b' := (ngB (dn Y V))) (A' := A7) (n' := n7) (c' := c7) (g := v3.heap.size) (by omega)
    replace z7 := z7.put (b' := (ngB (dn Y V))) (A' := A7) (n' := n7) (c' := c7) x_l
    replace z8 := z8.put (b' := (ngB (dn Y V))) (A' := A7) (n' := n7) (c' := c7) x_l
    replace hb := put_below (g := v3.heap.size) hb (by omega) (.bool (ngB (dn Y V))) (.slice A7 n7 c7)
    replace x_l := x_l.put (ngB (dn Y V)) A7 n7 c7
    clear q_l q_u q_p q_t
    generalize (v9.setCell ⟨v3.heap.size, 0, none⟩ (.bool (ngB (dn Y V)))).setCell ⟨v3.heap.size, 1, none⟩ (.slice A7 n7 c7) = v10 at *
    have q_l := x_l.al
    have q_u := x_u.al
    have q_p := x_p.al
    have q_t := x_t.al
    skip
    with_reducible refine (ZCmp_any z8.zr zu (by omega) (by omega)).mono ?_
    rintro e v11 ⟨rfl, hb1⟩
    obtain ⟨x_a, x_d, x_r, x_l, x_u, x_e, x_p, x_t, zl⟩ := mv9 hb1 x_a x_d x_r x_l x_u x_e x_p x_t zl
    obtain ⟨zu, x_s, z7, z8⟩ := mv4 hb1 zu x_s z7 z8
    replace hb := bthen hb hb1
    clear hb1
    replace q_l := x_l.al
    replace q_u := x_u.al
    replace q_p := x_p.al
    replace q_t := x_t.al
    rw [HC2.out]
    go_wp2
    replace x_a := x_a.aside (b' := (ngB (up Y V))) (A' := A8) (n' := n8) (c' := c8) (g := v3.heap.size + 1) (by omega)
    replace x_d := x_d.aside (b' := (ngB (up Y V))) (A' := A8) (n' := n8) (c' := c8) (g := v3.heap.size + 1) (by omega)
    replace x_r := x_r.aside (b' := (ngB (up Y V))) (A' := A8) (n' := n8) (c' := c8) (g := v3.heap.size + 1) (by omega)
    replace x_l := x_l.aside (b' := (ngB (up Y V))) (A' := A8) (n' := n8) (c' := c8) (g := v3.heap.size + 1) (by omega)
    replace x_e := x_e.aside (b' := (ngB (up Y V))) (A' := A8) (n' := n8) (c' := c8) (g := v3.heap.size + 1) (by omega)
    replace x_p := x_p.aside (b' := (ngB (up Y V))) (A' := A8) (n' := n8) (c' := c8) (g := v3.heap.size + 1) (by omega)
    replace x_t := x_t.aside (b' := (ngB (up Y V))) (A' := A8) (n' := n8) (c' := c8) (g := v3.heap.size + 1) (by omega)
    replace zl := zl.put (b' := (ngB (up Y V))) (A' := A8) (n' := n8) (c' := c8) x_u
    replace zu := zu.put (b' := (ngB (up Y V))) (A' := A8) (n' := n8) (c' := c8) x_u
    replace x_s := x_s.aside (b' := (ngB (up Y V))) (A' := A8) (n' := n8) (c' := c8) (g := v3.heap.size + 1) (by omega)
    replace z7 := z7.put (b' := (ngB (up Y V))) (A' := A8) (n' := n8) (c' := c8) x_u
    replace z8 := z8.put (b' := (ngB (up Y V))) (A' := A8) (n' := n8) (c' := c8) x_u
    replace hb := put_below (g := v3.heap.size + 1) hb (by omega) (.bool (ngB (up Y V))) (.slice A8 n8 c8)
    replace x_u := x_u.put (ngB (up Y V)) A8 n8 c8
    clear q_l q_u q_p q_t
    generalize (v11.setCell ⟨v3.heap.size + 1, 0, none⟩ (.bool (ngB (up Y V)))).setCell ⟨v3.heap.size + 1, 1, none⟩ (.slice A8 n8 c8) = v12 at *
    have q_l := x_l.al
    have q_u := x_u.al
    have q_p := x_p.al
    have q_t := x_t.al
    go_roundw
    case rel => exact ⟨3, by omega, by go_num, hb, ⟨x_a, x_d, x_r, x_s⟩, _, _, _, _, _, _, _, _, x_l, by rw [HM1.out]; exact z7.zr, x_u, by rw [HM2.out]; exact z8.zr⟩
    case measure => simp [intOf]
   ·have HM1 := Lib.hid m1; have HM2 := Lib.hid m2; clear m1 m2 i1 i2 hM2 hN2
    have q_l := x_l.al
    have q_u := x_u.al
    have s_0 := x_s.c 8 (.bool b2) rfl
    have s_1 := x_s.c 9 (.slice A2 n2 c2) rfl
    have s_2 := x_s.c 10 (.bool b4) rfl
    have s_3 := x_s.c 11 (.slice A4 n4 c4) rfl
    go_wp2_with fail
    clear s_0 s_1 s_2 s_3
    have hb1 := below_alloc wr (.cells #[.bool b2, .slice A2 n2 c2, .bool b4, .slice A4 n4 c4] 111)
    have l_a_e := x_a.lt
    have l_d_e := x_d.lt
    have l_r_e := x_r.lt
    have l_l_e := x_l.lt
    have l_u_e := x_u.lt
    have x_e := Ex.new wr b2 A2 n2 c2 b4 A4 n4 c4
    have e_e : w.heap.size ≤ wr.heap.size := hb.size
    clear q_l q_u
    obtain ⟨x_a, x_d, x_r, x_l, x_u, h, h2, h3, h4⟩ := mv9 hb1 x_a x_d x_r x_l x_u h h2 h3 h4
    obtain ⟨zl, zu, x_s⟩ := mv3 hb1 zl zu x_s
    replace hb := bthen hb hb1
    clear hb1
    generalize wr.alloc (.cells #[.bool b2, .slice A2 n2 c2, .bool b4, .slice A4 n4 c4] 111) = v6 at *
    have q_l := x_l.al
    have q_u := x_u.al
    have q_e := x_e.al
    have hbx := hb
    skip
    with_reducible refine (HAT.out _ _ _ _ _ _ _ _ _ Y V hb h2 h4 (Or.inr rfl)).mono ?_
    rintro e v7 ⟨A7, n7, c7, A8, n8, c8, rfl, z7, z8, hb1⟩
    obtain ⟨x_a, x_d, x_r, x_l, x_u, x_e, h, h2, h3⟩ := mv9 hb1 x_a x_d x_r x_l x_u x_e h h2 h3
    obtain ⟨h4, zl, zu, x_s⟩ := mv4 hb1 h4 zl zu x_s
    replace hb := bthen hb hb1
    clear hb1
    replace q_l := x_l.al
    replace q_u := x_u.al
    replace q_e := x_e.al
    clear hbx
    clear h h2 h3 h4
    clear q_e
    have y_l := ((x_l.alloc (.cells #[.bool (ngB (dn Y V)), .slice A7 n7 c7] 25)).alloc (.cells #[.bool (ngB (up Y V)), .slice A8 n8 c8] 25)); have yq_l0 := y_l.c0; have yq_l1 := y_l.c1
    have y_u := ((x_u.alloc (.cells #[.bool (ngB (dn Y V)), .slice A7 n7 c7] 25)).alloc (.cells #[.bool (ngB (up Y V)), .slice A8 n8 c8] 25)); have yq_u0 := y_u.c0; have yq_u1 := y_u.c1
    go_wp2_with fail
    clear y_l yq_l0 yq_l1 y_u yq_u0 yq_u1
    have l_a_p := x_a.lt
    have l_d_p := x_d.lt
    have l_r_p := x_r.lt
    have l_l_p := x_l.lt
    have l_u_p := x_u.lt
    have l_e_p := x_e.lt
    have e_p : w.heap.size ≤ v7.heap.size := hb.size
    have hb1 := below_alloc2 v7 (.cells #[.bool (ngB (dn Y V)), .slice A7 n7 c7] 25) (.cells #[.bool (ngB (up Y V)), .slice A8 n8 c8] 25)
    have x_p := (Bx.new v7 (ngB (dn Y V)) A7 n7 c7).alloc (.cells #[.bool (ngB (up Y V)), .slice A8 n8 c8] 25)
    have x_t : Bx ((v7.alloc (.cells #[.bool (ngB (dn Y V)), .slice A7 n7 c7] 25)).alloc (.cells #[.bool (ngB (up Y V)), .slice A8 n8 c8] 25)) (v7.heap.size + 1) (ngB (up Y V)) A8 n8 c8 := by have := Bx.new (v7.alloc (.cells #[.bool (ngB (dn Y V)), .slice A7 n7 c7] 25)) (ngB (up Y V)) A8 n8 c8; simpa using this
    clear q_l q_u
    obtain ⟨x_a, x_d, x_r, x_l, x_u, x_e, zl, zu, x_s⟩ := mv9 hb1 x_a x_d x_r x_l x_u x_e zl zu x_s
    obtain ⟨z7, z8⟩ := mv2 hb1 z7 z8
    replace hb := bthen hb hb1
    clear hb1
    generalize (v7.alloc (.cells #[.bool (ngB (dn Y V)), .slice A7 n7 c7] 25)).alloc (.cells #[.bool (ngB (up Y V)), .slice A8 n8 c8] 25) = v8 at *
    have q_l := x_l.al
    have q_u := x_u.al
    have q_p := x_p.al
    have q_t := x_t.al
    skip
    with_reducible refine (ZCmp_any z7.zr zl (by omega) (by omega)).mono ?_
    rintro e v9 ⟨rfl, hb1⟩
    obtain ⟨x_a, x_d, x_r, x_l, x_u, x_e, x_p, x_t, zl⟩ := mv9 hb1 x_a x_d x_r x_l x_u x_e x_p x_t zl
    obtain ⟨zu, x_s, z7, z8⟩ := mv4 hb1 zu x_s z7 z8
    replace hb := bthen hb hb1
    clear hb1
    replace q_l := x_l.al
    replace q_u := x_u.al
    replace q_p := x_p.al
    replace q_t := x_t.al
    rw [HC1.out]
    go_wp2_with fail
    replace x_a := x_a.aside (b' := (ngB (dn Y V))) (A' := A7) (n' := n7) (c' := c7) (g := v3.heap.size) (by omega)
    replace x_d := x_d.aside (b' := (ngB (dn Y V))) (A' := A7) (n' := n7) (c' := c7) (g := v3.heap.size) (by omega)
    replace x_r := x_r.aside (b' := (ngB (dn Y V))) (A' := A7) (n' := n7) (c' := c7) (g := v3.heap.size) (by omega)
    replace x_u := x_u.aside (b' := (ngB (dn Y V))) (A' := A7) (n' := n7) (c' := c7) (g := v3.heap.size) (by omega)
    replace x_e := x_e.aside (b' := (ngB (dn Y V))) (A' := A7) (n' := n7) (c' := c7) (g := v3.heap.size) (by omega)
    replace x_p := x_p.aside (b' := (ngB (dn Y V))) (A' := A7) (n' := n7) (c' := c7) (g := v3.heap.size) (by omega)
    replace x_t := x_t.aside (b' := (ngB (dn Y V))) (A' := A7) (n' := n7) (c' := c7) (g := v3.heap.size) (by omega)
    replace zl := zl.put (b' := (ngB (dn Y V))) (A' := A7) (n' := n7) (c' := c7) x_l
    replace zu := zu.put (b' := (ngB (dn Y V))) (A' := A7) (n' := n7) (c' := c7) x_l
    replace x_s := x_s.aside (b' := (ngB (dn Y V))) (A' := A7) (n' := n7) (c' := c7) (g := v3.heap.size) (by omega)
    replace z7 := z7.put (b' := (ngB (dn Y V))) (A' := A7) (n' := n7) (c' := c7) x_l
    replace z8 := z8.put (b' := (ngB (dn Y V))) (A' := A7) (n' := n7) (c' := c7) x_l
    replace hb := put_below (g := v3.heap.size) hb (by omega) (.bool (ngB (dn Y V))) (.slice A7 n7 c7)
    replace x_l := x_l.put (ngB (dn Y V)) A7 n7 c7
    clear q_l q_u q_p q_t
    generalize (v9.setCell ⟨v3.heap.size, 0, none⟩ (.bool (ngB (dn Y V)))).setCell ⟨v3.heap.size, 1, none⟩ (.slice A7 n7 c7) = v10 at *
    have q_l := x_l.al
    have q_u := x_u.al
    have q_p := x_p.al
    have q_t := x_t.al
    skip
    with_reducible refine (ZCmp_any z8.zr zu (by omega) (by omega)).mono ?_
    rintro e v11 ⟨rfl, hb1⟩
    obtain ⟨x_a, x_d, x_r, x_l, x_u, x_e, x_p, x_t, zl⟩ := mv9 hb1 x_a x_d x_r x_l x_u x_e x_p x_t zl
    obtain ⟨zu, x_s, z7, z8⟩ := mv4 hb1 zu x_s z7 z8
    replace hb := bthen hb hb1
    clear hb1
    replace q_l := x_l.al
    replace q_u := x_u.al
    replace q_p := x_p.al
    replace q_t := x_t.al
    rw [HC2.out]
    go_wp2
    go_roundw
    case rel => exact ⟨3, by omega, by go_num, hb, ⟨x_a, x_d, x_r, x_s⟩, _, _, _, _, _, _, _, _, x_l, by rw [HM1.out]; exact z7.zr, x_u, by rw [HM2.out]; exact zu⟩
    case measure => simp [intOf]
   ·have HM1 := Lib.hid m1; have HM2 := Lib.hid m2; clear m1 m2 i1 i2 hM2 hN2
    have q_l := x_l.al
    have q_u := x_u.al
    have s_0 := x_s.c 8 (.bool b2) rfl
    have s_1 := x_s.c 9 (.slice A2 n2 c2) rfl
    have s_2 := x_s.c 10 (.bool b4) rfl
    have s_3 := x_s.c 11 (.slice A4 n4 c4) rfl
    go_wp2_with fail
    clear s_0 s_1 s_2 s_3
    have hb1 := below_alloc wr (.cells #[.bool b2, .slice A2 n2 c2, .bool b4, .slice A4 n4 c4] 111)
    have l_a_e := x_a.lt
    have l_d_e := x_d.lt
    have l_r_e := x_r.lt
    have l_l_e := x_l.lt
    have l_u_e := x_u.lt
    have x_e := Ex.new wr b2 A2 n2 c2 b4 A4 n4 c4
    have e_e : w.heap.size ≤ wr.heap.size := hb.size
    clear q_l q_u
    obtain ⟨x_a, x_d, x_r, x_l, x_u, h, h2, h3, h4⟩ := mv9 hb1 x_a x_d x_r x_l x_u h h2 h3 h4
    obtain ⟨zl, zu, x_s⟩ := mv3 hb1 zl zu x_s
    replace hb := bthen hb hb1
    clear hb1
    generalize wr.alloc (.cells #[.bool b2, .slice A2 n2 c2, .bool b4, .slice A4 n4 c4] 111) = v6 at *
    have q_l := x_l.al
    have q_u := x_u.al
    have q_e := x_e.al
    have hbx := hb
    skip
    with_reducible refine (HAT.out _ _ _ _ _ _ _ _ _ Y V hb h2 h4 (Or.inr rfl)).mono ?_
    rintro e v7 ⟨A7, n7, c7, A8, n8, c8, rfl, z7, z8, hb1⟩
    obtain ⟨x_a, x_d, x_r, x_l, x_u, x_e, h, h2, h3⟩ := mv9 hb1 x_a x_d x_r x_l x_u x_e h h2 h3
    obtain ⟨h4, zl, zu, x_s⟩ := mv4 hb1 h4 zl zu x_s
    replace hb := bthen hb hb1
    clear hb1
    replace q_l := x_l.al
    replace q_u := x_u.al
    replace q_e := x_e.al
    clear hbx
    clear h h2 h3 h4
    clear q_e
    have y_l := ((x_l.alloc (.cells #[.bool (ngB (dn Y V)), .slice A7 n7 c7] 25)).alloc (.cells #[.bool (ngB (up Y V)), .slice A8 n8 c8] 25)); have yq_l0 := y_l.c0; have yq_l1 := y_l.c1
    have y_u := ((x_u.alloc (.cells #[.bool (ngB (dn Y V)), .slice A7 n7 c7] 25)).alloc (.cells #[.bool (ngB (up Y V)), .slice A8 n8 c8] 25)); have yq_u0 := y_u.c0; have yq_u1 := y_u.c1
    go_wp2_with fail
    clear y_l yq_l0 yq_l1 y_u yq_u0 yq_u1
    have l_a_p := x_a.lt
    have l_d_p := x_d.lt
    have l_r_p := x_r.lt
    have l_l_p := x_l.lt
    have l_u_p := x_u.lt
    have l_e_p := x_e.lt
    have e_p : w.heap.size ≤ v7.heap.size := hb.size
    have hb1 := below_alloc2 v7 (.cells #[.bool (ngB (dn Y V)), .slice A7 n7 c7] 25) (.cells #[.bool (ngB (up Y V)), .slice A8 n8 c8] 25)
    have x_p := (Bx.new v7 (ngB (dn Y V)) A7 n7 c7).alloc (.cells #[.bool (ngB (up Y V)), .slice A8 n8 c8] 25)
    have x_t : Bx ((v7.alloc (.cells #[.bool (ngB (dn Y V)), .slice A7 n7 c7] 25)).alloc (.cells #[.bool (ngB (up Y V)), .slice A8 n8 c8] 25)) (v7.heap.size + 1) (ngB (up Y V)) A8 n8 c8 := by have := Bx.new (v7.alloc (.cells #[.bool (ngB (dn Y V)), .slice A7 n7 c7] 25)) (ngB (up Y V)) A8 n8 c8; simpa using this
    clear q_l q_u
    obtain ⟨x_a, x_d, x_r, x_l, x_u, x_e, zl, zu, x_s⟩ := mv9 hb1 x_a x_d x_r x_l x_u x_e zl zu x_s
    obtain ⟨z7, z8⟩ := mv2 hb1 z7 z8
    replace hb := bthen hb hb1
    clear hb1
    generalize (v7.alloc (.cells #[.bool (ngB (dn Y V)), .slice A7 n7 c7] 25)).alloc (.cells #[.bool (ngB (up Y V)), .slice A8 n8 c8] 25) = v8 at *
    have q_l := x_l.al
    have q_u := x_u.al
    have q_p := x_p.al
    have q_t := x_t.al
    skip
    with_reducible refine (ZCmp_any z7.zr zl (by omega) (by omega)).mono ?_
    rintro e v9 ⟨rfl, hb1⟩
    obtain ⟨x_a, x_d, x_r, x_l, x_u, x_e, x_p, x_t, zl⟩ := mv9 hb1 x_a x_d x_r x_l x_u x_e x_p x_t zl
    obtain ⟨zu, x_s, z7, z8⟩ := mv4 hb1 zu x_s z7 z8
    replace hb := bthen hb hb1
    clear hb1
    replace q_l := x_l.al
    replace q_u := x_u.al
    replace q_p := x_p.al
    replace q_t := x_t.al
    rw [HC1.out]
    go_wp2_with fail
    with_reducible refine (ZCmp_any z8.zr zu (by omega) (by omega)).mono ?_
    rintro e v10 ⟨rfl, hb1⟩
    obtain ⟨x_a, x_d, x_r, x_l, x_u, x_e, x_p, x_t, zl⟩ := mv9 hb1 x_a x_d x_r x_l x_u x_e x_p x_t zl
    obtain ⟨zu, x_s, z7, z8⟩ := mv4 hb1 zu x_s z7 z8
    replace hb := bthen hb hb1
    clear hb1
    replace q_l := x_l.al
    replace q_u := x_u.al
    replace q_p := x_p.al
    replace q_t := x_t.al
    rw [HC2.out]
    go_wp2
    replace x_a := x_a.aside (b' := (ngB (up Y V))) (A' := A8) (n' := n8) (c' := c8) (g := v3.heap.size + 1) (by omega)
    replace x_d := x_d.aside (b' := (ngB (up Y V))) (A' := A8) (n' := n8) (c' := c8) (g := v3.heap.size + 1) (by omega)
    replace x_r := x_r.aside (b' := (ngB (up Y V))) (A' := A8) (n' := n8) (c' := c8) (g := v3.heap.size + 1) (by omega)
    replace x_l := x_l.aside (b' := (ngB (up Y V))) (A' := A8) (n' := n8) (c' := c8) (g := v3.heap.size + 1) (by omega)
    replace x_e := x_e.aside (b' := (ngB (up Y V))) (A' := A8) (n' := n8) (c' := c8) (g := v3.heap.size + 1) (by omega)
    replace x_p := x_p.aside (b' := (ngB (up Y V))) (A' := A8) (n' := n8) (c' := c8) (g := v3.heap.size + 1) (by omega)
    replace x_t := x_t.aside (b' := (ngB (up Y V))) (A' := A8) (n' := n8) (c' := c8) (g := v3.heap.size + 1) (by omega)
    replace zl := zl.put (b' := (ngB (up Y V))) (A' := A8) (n' := n8) (c' := c8) x_u
    replace zu := zu.put (b' := (ngB (up Y V))) (A' := A8) (n' := n8) (c' := c8) x_u
    replace x_s := x_s.aside (b' := (ngB (up Y V))) (A' := A8) (n' := n8) (c' := c8) (g := v3.heap.size + 1) (by omega)
    replace z7 := z7.put (b' := (ngB (up Y V))) (A' := A8) (n' := n8) (c' := c8) x_u
    replace z8 := z8.put (b' := (ngB (up Y V))) (A' := A8) (n' := n8) (c' := c8) x_u
    replace hb := put_below (g := v3.heap.size + 1) hb (by omega) (.bool (ngB (up Y V))) (.slice A8 n8 c8)
    replace x_u := x_u.put (ngB (up Y V)) A8 n8 c8
    clear q_l q_u q_p q_t
    generalize (v10.setCell ⟨v3.heap.size + 1, 0, none⟩ (.bool (ngB (up Y V)))).setCell ⟨v3.heap.size + 1, 1, none⟩ (.slice A8 n8 c8) = v11 at *
    have q_l := x_l.al
    have q_u := x_u.al
    have q_p := x_p.al
    have q_t := x_t.al
    go_roundw
    case rel => exact ⟨3, by omega, by go_num, hb, ⟨x_a, x_d, x_r, x_s⟩, _, _, _, _, _, _, _, _, x_l, by rw [HM1.out]; exact zl, x_u, by rw [HM2.out]; exact z8.zr⟩
    case measure => simp [intOf]
   ·have HM1 := Lib.hid m1; have HM2 := Lib.hid m2; clear m1 m2 i1 i2 hM2 hN2
    have q_l := x_l.al
    have q_u := x_u.al
    have s_0 := x_s.c 8 (.bool b2) rfl
    have s_1 := x_s.c 9 (.slice A2 n2 c2) rfl
    have s_2 := x_s.c 10 (.bool b4) rfl
    have s_3 := x_s.c 11 (.slice A4 n4 c4) rfl
    go_wp2_with fail
    clear s_0 s_1 s_2 s_3
    have hb1 := below_alloc wr (.cells #[.bool b2, .slice A2 n2 c2, .bool b4, .slice A4 n4 c4] 111)
    have l_a_e := x_a.lt
    have l_d_e := x_d.lt
    have l_r_e := x_r.lt
    have l_l_e := x_l.lt
    have l_u_e := x_u.lt
    have x_e := Ex.new wr b2 A2 n2 c2 b4 A4 n4 c4
    have e_e : w.heap.size ≤ wr.heap.size := hb.size
    clear q_l q_u
    obtain ⟨x_a, x_d, x_r, x_l, x_u, h, h2, h3, h4⟩ := mv9 hb1 x_a x_d x_r x_l x_u h h2 h3 h4
    obtain ⟨zl, zu, x_s⟩ := mv3 hb1 zl zu x_s
    replace hb := bthen hb hb1
    clear hb1
    generalize wr.alloc (.cells #[.bool b2, .slice A2 n2 c2, .bool b4, .slice A4 n4 c4] 111) = v6 at *
    have q_l := x_l.al
    have q_u := x_u.al
    have q_e := x_e.al
    have hbx := hb
    skip
    with_reducible refine (HAT.out _ _ _ _ _ _ _ _ _ Y V hb h2 h4 (Or.inr rfl)).mono ?_
    rintro e v7 ⟨A7, n7, c7, A8, n8, c8, rfl, z7, z8, hb1⟩
    obtain ⟨x_a, x_d, x_r, x_l, x_u, x_e, h, h2, h3⟩ := mv9 hb1 x_a x_d x_r x_l x_u x_e h h2 h3
    obtain ⟨h4, zl, zu, x_s⟩ := mv4 hb1 h4 zl zu x_s
    replace hb := bthen hb hb1
    clear hb1
    replace q_l := x_l.al
    replace q_u := x_u.al
    replace q_e := x_e.al
    clear hbx
    clear h h2 h3 h4
    clear q_e
    have y_l := ((x_l.alloc (.cells #[.bool (ngB (dn Y V)), .slice A7 n7 c7] 25)).alloc (.cells #[.bool (ngB (up Y V)), .slice A8 n8 c8] 25)); have yq_l0 := y_l.c0; have yq_l1 := y_l.c1
    have y_u := ((x_u.alloc (.cells #[.bool (ngB (dn Y V)), .slice A7 n7 c7] 25)).alloc (.cells #[.bool (ngB (up Y V)), .slice A8 n8 c8] 25)); have yq_u0 := y_u.c0; have yq_u1 := y_u.c1
    go_wp2_with fail
    clear y_l yq_l0 yq_l1 y_u yq_u0 yq_u1
    have l_a_p := x_a.lt
    have l_d_p := x_d.lt
    have l_r_p := x_r.lt
    have l_l_p := x_l.lt
    have l_u_p := x_u.lt
    have l_e_p := x_e.lt
    have e_p : w.heap.size ≤ v7.heap.size := hb.size
    have hb1 := below_alloc2 v7 (.cells #[.bool (ngB (dn Y V)), .slice A7 n7 c7] 25) (.cells #[.bool (ngB (up Y V)), .slice A8 n8 c8] 25)
    have x_p := (Bx.new v7 (ngB (dn Y V)) A7 n7 c7).alloc (.cells #[.bool (ngB (up Y V)), .slice A8 n8 c8] 25)
    have x_t : Bx ((v7.alloc (.cells #[.bool (ngB (dn Y V)), .slice A7 n7 c7] 25)).alloc (.cells #[.bool (ngB (up Y V)), .slice A8 n8 c8] 25)) (v7.heap.size + 1) (ngB (up Y V)) A8 n8 c8 := by have := Bx.new (v7.alloc (.cells #[.bool (ngB (dn Y V)), .slice A7 n7 c7] 25)) (ngB (up Y V)) A8 n8 c8; simpa using this
    clear q_l q_u
    obtain ⟨x_a, x_d, x_r, x_l, x_u, x_e, zl, zu, x_s⟩ := mv9 hb1 x_a x_d x_r x_l x_u x_e zl zu x_s
    obtain ⟨z7, z8⟩ := mv2 hb1 z7 z8
    replace hb := bthen hb hb1
    clear hb1
    generalize (v7.alloc (.cells #[.bool (ngB (dn Y V)), .slice A7 n7 c7] 25)).alloc (.cells #[.bool (ngB (up Y V)), .slice A8 n8 c8] 25) = v8 at *
    have q_l := x_l.al
    have q_u := x_u.al
    have q_p := x_p.al
    have q_t := x_t.al
    skip
    with_reducible refine (ZCmp_any z7.zr zl (by omega) (by omega)).mono ?_
    rintro e v9 ⟨rfl, hb1⟩
    obtain ⟨x_a, x_d, x_r, x_l, x_u, x_e, x_p, x_t, zl⟩ := mv9 hb1 x_a x_d x_r x_l x_u x_e x_p x_t zl
    obtain ⟨zu, x_s, z7, z8⟩ := mv4 hb1 zu x_s z7 z8
    replace hb := bthen hb hb1
    clear hb1
    replace q_l := x_l.al
    replace q_u := x_u.al
    replace q_p := x_p.al
    replace q_t := x_t.al
    rw [HC1.out]
    go_wp2_with fail
    with_reducible refine (ZCmp_any z8.zr zu (by omega) (by omega)).mono ?_
    rintro e v10 ⟨rfl, hb1⟩
    obtain ⟨x_a, x_d, x_r, x_l, x_u, x_e, x_p, x_t, zl⟩ := mv9 hb1 x_a x_d x_r x_l x_u x_e x_p x_t zl
    obtain ⟨zu, x_s, z7, z8⟩ := mv4 hb1 zu x_s z7 z8
    replace hb := bthen hb hb1
    clear hb1
    replace q_l := x_l.al
    replace q_u := x_u.al
    replace q_p := x_p.al
    replace q_t := x_t.al
    rw [HC2.out]
    go_wp2
    go_roundw
    case rel => exact ⟨3, by omega, by go_num, hb, ⟨x_a, x_d, x_r, x_s⟩, _, _, _, _, _, _, _, _, x_l, by rw [HM1.out]; exact zl, x_u, by rw [HM2.out]; exact zu⟩
    case measure => simp [intOf]
  ·change Zr wr bl_ Al_ nl_ cl_ (mn4 dn X Y U V) K at zl
   change Zr wr bu_ Au_ nu_ cu_ (mx4 up X Y U V) K at zu
   rw [HM0.out] at zl; rw [HN0.out] at zu
   clear x_s
   have q_a := x_a.al
   have q_d := x_d.al
   have q_r := x_r.al
   have q_l := x_l.al
   have q_u := x_u.al
   go_wp2_with fail
   go_region_held3 (fun w' => w'.cell? ⟨v3.heap.size, 0, none⟩ = some (.bool bl_) ∧ w'.cell? ⟨v3.heap.size, 1, none⟩ = some (.slice Al_ nl_ cl_) ∧ w'.cell? ⟨v3.heap.size + 1, 0, none⟩ = some (.bool bu_) ∧ w'.cell? ⟨v3.heap.size + 1, 1, none⟩ = some (.slice Au_ nu_ cu_) ∧ w'.cell? ⟨w.heap.size, 0, none⟩ = some (.bool b) ∧ w'.cell? ⟨w.heap.size, 1, none⟩ = some (.slice A n c) ∧ w'.cell? ⟨w.heap.size, 2, none⟩ = some (.bool b2) ∧ w'.cell? ⟨w.heap.size, 3, none⟩ = some (.slice A2 n2 c2) ∧ w'.cell? ⟨w.heap.size, 4, none⟩ = some (.int .i64 q))
    (first | (with_reducible exact ⟨x_l.c0, x_l.c1, x_u.c0, x_u.c1, x_a.c0, x_a.c1, x_a.c2, x_a.c3, x_a.c4⟩) | (with_reducible exact ⟨(x_l.aside (by omega)).c0, (x_l.aside (by omega)).c1, (x_u.aside (by omega)).c0, (x_u.aside (by omega)).c1, (x_a.aside (by omega)).c0, (x_a.aside (by omega)).c1, (x_a.aside (by omega)).c2, (x_a.aside (by omega)).c3, (x_a.aside (by omega)).c4⟩) | (with_reducible exact ⟨((x_l.aside (by omega)).aside (by omega)).c0, ((x_l.aside (by omega)).aside (by omega)).c1, ((x_u.aside (by omega)).aside (by omega)).c0, ((x_u.aside (by omega)).aside (by omega)).c1, ((x_a.aside (by omega)).aside (by omega)).c0, ((x_a.aside (by omega)).aside (by omega)).c1, ((x_a.aside (by omega)).aside (by omega)).c2, ((x_a.aside (by omega)).aside (by omega)).c3, ((x_a.aside (by omega)).aside (by omega)).c4⟩) | (with_reducible exact ⟨(x_l.asideD (by omega)).c0, (x_l.asideD (by omega)).c1, (x_u.asideD (by omega)).c0, (x_u.asideD (by omega)).c1, (x_a.asideD (by omega)).c0, (x_a.asideD (by omega)).c1, (x_a.asideD (by omega)).c2, (x_a.asideD (by omega)).c3, (x_a.asideD (by omega)).c4⟩) | (with_reducible exact ⟨((x_l.asideD (by omega)).asideD (by omega)).c0, ((x_l.asideD (by omega)).asideD (by omega)).c1, ((x_u.asideD (by omega)).asideD (by omega)).c0, ((x_u.asideD (by omega)).asideD (by omega)).c1, ((x_a.asideD (by omega)).asideD (by omega)).c0, ((x_a.asideD (by omega)).asideD (by omega)).c1, ((x_a.asideD (by omega)).asideD (by omega)).c2, ((x_a.asideD (by omega)).asideD (by omega)).c3, ((x_a.asideD (by omega)).asideD (by omega)).c4⟩) | (with_reducible exact ⟨(x_l.asideL (by omega)).c0, (x_l.asideL (by omega)).c1, (x_u.asideL (by omega)).c0, (x_u.asideL (by omega)).c1, (x_a.asideL (by omega)).c0, (x_a.asideL (by omega)).c1, (x_a.asideL (by omega)).c2, (x_a.asideL (by omega)).c3, (x_a.asideL (by omega)).c4⟩) | (with_reducible exact ⟨((x_l.asideL (by omega)).asideL (by omega)).c0, ((x_l.asideL (by omega)).asideL (by omega)).c1, ((x_u.asideL (by omega)).asideL (by omega)).c0, ((x_u.asideL (by omega)).asideL (by omega)).c1, ((x_a.asideL (by omega)).asideL (by omega)).c0, ((x_a.asideL (by omega)).asideL (by omega)).c1, ((x_a.asideL (by omega)).asideL (by omega)).c2, ((x_a.asideL (by omega)).asideL (by omega)).c3, ((x_a.asideL (by omega)).asideL (by omega)).c4⟩) | go_keep)
    (first | (go_at_call 120; (with_reducible refine (ZNorm_any zl.drw K (Nat.le_refl _)).mono ?_); rintro e v6 ⟨A7, n7, c7, rfl, z7, hb1⟩; replace hb1 := undrew hb1; obtain ⟨x_a, x_d, x_r, x_l, x_u, h, h2, h3, h4⟩ := mv9 hb1 x_a x_d x_r x_l x_u h h2 h3 h4; obtain ⟨zl, zu⟩ := mv2 hb1 zl zu; replace hb := bthen hb hb1; clear hb1; replace q_a := x_a.al; replace q_d := x_d.al; replace q_r := x_r.al; replace q_l := x_l.al; replace q_u := x_u.al) | (go_at_call 120; (with_reducible refine (ZNorm_any zu K (Nat.le_refl _)).mono ?_); rintro e v7 ⟨A8, n8, c8, rfl, z8, hb1⟩; obtain ⟨x_a, x_d, x_r, x_l, x_u, h, h2, h3, h4⟩ := mv9 hb1 x_a x_d x_r x_l x_u h h2 h3 h4; obtain ⟨zl, zu, z7⟩ := mv3 hb1 zl zu z7; replace hb := bthen hb hb1; clear hb1; replace q_a := x_a.al; replace q_d := x_d.al; replace q_r := x_r.al; replace q_l := x_l.al; replace q_u := x_u.al))
   go_wp2
   replace x_a := x_a.asideL (b' := (ngB M0)) (A' := A7) (n' := n7) (c' := c7) (p' := (ngB N0)) (B' := A8) (m' := n8) (d' := c8) (e' := q) (g := w.heap.size + 1 + 1) (by omega)
   replace x_d := x_d.asideL (b' := (ngB M0)) (A' := A7) (n' := n7) (c' := c7) (p' := (ngB N0)) (B' := A8) (m' := n8) (d' := c8) (e' := q) (g := w.heap.size + 1 + 1) (by omega)
   replace x_l := x_l.asideL (b' := (ngB M0)) (A' := A7) (n' := n7) (c' := c7) (p' := (ngB N0)) (B' := A8) (m' := n8) (d' := c8) (e' := q) (g := w.heap.size + 1 + 1) (by omega)
   replace x_u := x_u.asideL (b' := (ngB M0)) (A' := A7) (n' := n7) (c' := c7) (p' := (ngB N0)) (B' := A8) (m' := n8) (d' := c8) (e' := q) (g := w.heap.size + 1 + 1) (by omega)
   replace h := h.putL (b' := (ngB M0)) (A' := A7) (n' := n7) (c' := c7) (p' := (ngB N0)) (B' := A8) (m' := n8) (d' := c8) (e' := q) x_r
   replace h2 := h2.putL (b' := (ngB M0)) (A' := A7) (n' := n7) (c' := c7) (p' := (ngB N0)) (B' := A8) (m' := n8) (d' := c8) (e' := q) x_r
   replace h3 := h3.putL (b' := (ngB M0)) (A' := A7) (n' := n7) (c' := c7) (p' := (ngB N0)) (B' := A8) (m' := n8) (d' := c8) (e' := q) x_r
   replace h4 := h4.putL (b' := (ngB M0)) (A' := A7) (n' := n7) (c' := c7) (p' := (ngB N0)) (B' := A8) (m' := n8) (d' := c8) (e' := q) x_r
   replace zl := zl.putL (b' := (ngB M0)) (A' := A7) (n' := n7) (c' := c7) (p' := (ngB N0)) (B' := A8) (m' := n8) (d' := c8) (e' := q) x_r
   replace zu := zu.putL (b' := (ngB M0)) (A' := A7) (n' := n7) (c' := c7) (p' := (ngB N0)) (B' := A8) (m' := n8) (d' := c8) (e' := q) x_r
   replace z7 := z7.putL (b' := (ngB M0)) (A' := A7) (n' := n7) (c' := c7) (p' := (ngB N0)) (B' := A8) (m' := n8) (d' := c8) (e' := q) x_r
   replace z8 := z8.putL (b' := (ngB M0)) (A' := A7) (n' := n7) (c' := c7) (p' := (ngB N0)) (B' := A8) (m' := n8) (d' := c8) (e' := q) x_r
   replace hb := put_belowL (g := w.heap.size + 1 + 1) hb (by omega) (.bool (ngB M0)) (.slice A7 n7 c7) (.bool (ngB N0)) (.slice A8 n8 c8) (.int .i64 q)
   replace x_r := x_r.put (ngB M0) A7 n7 c7 (ngB N0) A8 n8 c8 q
   clear q_a q_d q_r q_l q_u
   generalize ((((v7.setCell ⟨w.heap.size + 1 + 1, 0, none⟩ (.bool (ngB M0))).setCell ⟨w.heap.size + 1 + 1, 1, none⟩ (.slice A7 n7 c7)).setCell ⟨w.heap.size + 1 + 1, 2, none⟩ (.bool (ngB N0))).setCell ⟨w.heap.size + 1 + 1, 3, none⟩ (.slice A8 n8 c8)).setCell ⟨w.heap.size + 1 + 1, 4, none⟩ (.int .i64 q) = v8 at *
   have q_a := x_a.al
   have q_d := x_d.al
   have q_r := x_r.al
   have q_l := x_l.al
   have q_u := x_u.al
   refine bodyPost_ret (v := .tuple #[.agg #[.bool (ngB M0), .slice A7 n7 c7, .bool (ngB N0), .slice A8 n8 c8, .int .i64 q], .int .i64 0]) (by simp [results, Tryz.results82, go_sem, q_r]) rfl ?_
   exact ⟨_, _, _, _, _, _, rfl, z7, z8, hb⟩

end Go.Proofs.YtiikmjnnlckiiaaGreat
