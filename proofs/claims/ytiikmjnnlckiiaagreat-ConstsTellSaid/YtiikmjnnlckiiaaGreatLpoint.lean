/-
 ball: Point, Recast, scale.
-/
import Derived.Test.YtiikmjnnlckiiaaGreatLint
namespace Go.Proofs.YtiikmjnnlckiiaaGreat
open Go.RowKit
set_option linter.unusedVariables false

theorem qB_bool {a b : Bool} (h : a = b) : Ending.returned (.bool a) = .returned (.bool b) := by rw [h]
/-- Is a number of places valid? -/
def qB (q : Int) : Bool := decide (0 ≤ q ∧ q ≤ 2048)
theorem qB_yes {q : Int} (h : 0 ≤ q ∧ q ≤ 2048) : qB q = true := by unfold qB; simpa using h
theorem qB_no {q : Int} (h : ¬ (0 ≤ q ∧ q ≤ 2048)) : qB q = false := by unfold qB; simp only [decide_eq_false_iff_not]; exact h
theorem sgn_le {X Y : Int} : sgnI (X - Y) ≤ 0 ↔ X ≤ Y := by
 have := sgnI_gt0 (X := X - Y)
 omega

set_option maxRecDepth 100000 in
set_option maxHeartbeats 1000000 in
theorem rightQ_any (q : Int) {w : World} :
  Calls Tryz.prog 57 #[.int .i64 q] w fun e w' => e = .returned (.bool (qB q)) ∧ Below w.heap.size w w' := by
 rcases (show q < 0 ∨ (0 ≤ q ∧ q ≤ 2048) ∨ (0 ≤ q ∧ ¬ q ≤ 2048) by omega) with h | ⟨h, h2⟩ | ⟨h, h2⟩
 ·have hf := qB_no (q := q) (by omega)
  have h3 : ¬ 0 ≤ q := by omega
  have HF := Lib.hid hf; clear hf
  go_enter Tryz.func57, Tryz.ntmps57
  go_wp2
  go_ret
  exact ⟨qB_bool HF.out.symm, Below.refl _ _⟩
 ·have hf := qB_yes (q := q) (by omega)
  have HF := Lib.hid hf; clear hf
  go_enter Tryz.func57, Tryz.ntmps57
  go_wp2
  go_ret
  exact ⟨qB_bool HF.out.symm, Below.refl _ _⟩
 ·have hf := qB_no (q := q) (by omega)
  have HF := Lib.hid hf; clear hf
  go_enter Tryz.func57, Tryz.ntmps57
  go_wp2
  go_ret
  exact ⟨qB_bool HF.out.symm, Below.refl _ _⟩

set_option maxRecDepth 100000 in
set_option maxHeartbeats 1000000 in
theorem Right_any {b b2 : Bool} {A A2 : Option Addr} {n c n2 c2 : Nat} {X Y q : Int} {j j2 : Nat} {w : World} (h : Zr w b A n c X j) (h2 : Zr w b2 A2 n2 c2 Y j2) (hj : j ≤ 1000000) (hj2 : j2 ≤ 1000000) :
  Calls Tryz.prog 56 #[.agg #[.bool b, .slice A n c, .bool b2, .slice A2 n2 c2, .int .i64 q]] w fun e w' => e = .returned (.bool (rB X Y q)) ∧ Below w.heap.size w w' := by
 by_cases hq : 0 ≤ q ∧ q ≤ 2048
 ·have HQ := Lib.hid (qB_yes hq)
  by_cases hXY : X ≤ Y
  ·have HF := Lib.hid (rB_yes (X := X) (Y := Y) (q := q) (by omega))
   have hd : sgnI (X - Y) ≤ 0 := sgn_le.2 hXY
   clear hXY hq
   generalize hC : sgnI (X - Y) = C at hd
   have HC := Lib.hid hC; clear hC
   go_enter Tryz.func56, Tryz.ntmps56
   go_wp2_with fail
   have x_a : Lx (w.alloc (.cells #[.bool b, .slice A n c, .bool b2, .slice A2 n2 c2, .int .i64 q] 27)) (w.heap.size) b A n c b2 A2 n2 c2 q := by have := Lx.new w b A n c b2 A2 n2 c2 q; simpa using this
   have hb : Below w.heap.size w (w.alloc (.cells #[.bool b, .slice A n c, .bool b2, .slice A2 n2 c2, .int .i64 q] 27)) := (Below.alloc (Below.refl w.heap.size w) (by simp) (.cells #[.bool b, .slice A n c, .bool b2, .slice A2 n2 c2, .int .i64 q] 27))
   generalize w.alloc (.cells #[.bool b, .slice A n c, .bool b2, .slice A2 n2 c2, .int .i64 q] 27) = v1 at *
   obtain ⟨h, h2⟩ := mv2 hb h h2
   have q_a := x_a.al
   go_wp2_with fail
   with_reducible refine (rightQ_any q).mono ?_
   rintro e v2 ⟨rfl, hb1⟩
   obtain ⟨x_a, h, h2⟩ := mv3 hb1 x_a h h2
   replace hb := bthen hb hb1
   clear hb1
   replace q_a := x_a.al
   rw [HQ.out]
   go_wp2_with fail
   with_reducible refine (ZCmp_any h h2 hj hj2).mono ?_
   rintro e v3 ⟨rfl, hb1⟩
   obtain ⟨x_a, h, h2⟩ := mv3 hb1 x_a h h2
   replace hb := bthen hb hb1
   clear hb1
   replace q_a := x_a.al
   rw [HC.out]
   go_wp2
   go_ret
   exact ⟨qB_bool HF.out.symm, hb⟩
  ·have HF := Lib.hid (rB_no (X := X) (Y := Y) (q := q) (by omega))
   have hd : ¬ sgnI (X - Y) ≤ 0 := fun hc => hXY (sgn_le.1 hc)
   clear hXY hq
   generalize hC : sgnI (X - Y) = C at hd
   have HC := Lib.hid hC; clear hC
   go_enter Tryz.func56, Tryz.ntmps56
   go_wp2_with fail
   have x_a : Lx (w.alloc (.cells #[.bool b, .slice A n c, .bool b2, .slice A2 n2 c2, .int .i64 q] 27)) (w.heap.size) b A n c b2 A2 n2 c2 q := by have := Lx.new w b A n c b2 A2 n2 c2 q; simpa using this
   have hb : Below w.heap.size w (w.alloc (.cells #[.bool b, .slice A n c, .bool b2, .slice A2 n2 c2, .int .i64 q] 27)) := (Below.alloc (Below.refl w.heap.size w) (by simp) (.cells #[.bool b, .slice A n c, .bool b2, .slice A2 n2 c2, .int .i64 q] 27))
   generalize w.alloc (.cells #[.bool b, .slice A n c, .bool b2, .slice A2 n2 c2, .int .i64 q] 27) = v1 at *
   obtain ⟨h, h2⟩ := mv2 hb h h2
   have q_a := x_a.al
   go_wp2_with fail
   with_reducible refine (rightQ_any q).mono ?_
   rintro e v2 ⟨rfl, hb1⟩
   obtain ⟨x_a, h, h2⟩ := mv3 hb1 x_a h h2
   replace hb := bthen hb hb1
   clear hb1
   replace q_a := x_a.al
   rw [HQ.out]
   go_wp2_with fail
   with_reducible refine (ZCmp_any h h2 hj hj2).mono ?_
   rintro e v3 ⟨rfl, hb1⟩
   obtain ⟨x_a, h, h2⟩ := mv3 hb1 x_a h h2
   replace hb := bthen hb hb1
   clear hb1
   replace q_a := x_a.al
   rw [HC.out]
   go_wp2
   go_ret
   exact ⟨qB_bool ((dec_no (p := C ≤ 0) (by omega)).trans HF.out.symm), hb⟩
 ·have HQ := Lib.hid (qB_no hq)
  have HF := Lib.hid (rB_no (X := X) (Y := Y) (q := q) (by omega))
  clear hq
  go_enter Tryz.func56, Tryz.ntmps56
  go_wp2_with fail
  have x_a : Lx (w.alloc (.cells #[.bool b, .slice A n c, .bool b2, .slice A2 n2 c2, .int .i64 q] 27)) (w.heap.size) b A n c b2 A2 n2 c2 q := by have := Lx.new w b A n c b2 A2 n2 c2 q; simpa using this
  have hb : Below w.heap.size w (w.alloc (.cells #[.bool b, .slice A n c, .bool b2, .slice A2 n2 c2, .int .i64 q] 27)) := (Below.alloc (Below.refl w.heap.size w) (by simp) (.cells #[.bool b, .slice A n c, .bool b2, .slice A2 n2 c2, .int .i64 q] 27))
  generalize w.alloc (.cells #[.bool b, .slice A n c, .bool b2, .slice A2 n2 c2, .int .i64 q] 27) = v1 at *
  obtain ⟨h, h2⟩ := mv2 hb h h2
  have q_a := x_a.al
  go_wp2_with fail
  with_reducible refine (rightQ_any q).mono ?_
  rintro e v2 ⟨rfl, hb1⟩
  obtain ⟨x_a, h, h2⟩ := mv3 hb1 x_a h h2
  replace hb := bthen hb hb1
  clear hb1
  replace q_a := x_a.al
  rw [HQ.out]
  go_wp2
  go_ret
  exact ⟨qB_bool HF.out.symm, hb⟩

set_option maxRecDepth 100000 in
set_option maxHeartbeats 1000000 in
theorem low_any {b b2 : Bool} {A A2 : Option Addr} {n c n2 c2 : Nat} {q : Int} {w : World} (hq : 0 ≤ q ∧ q ≤ 2048) :
  Calls Tryz.prog 59 #[.agg #[.bool b, .slice A n c, .bool b2, .slice A2 n2 c2, .int .i64 q]] w fun e w' => e = .returned (.agg #[.bool b, .slice A n c, .int .i64 (-q)]) ∧ Below w.heap.size w w' := by
 have hwr : IntKind.i64.wrap (-q) = -q := wrap_in (by omega) (by omega)
 go_enter Tryz.func59, Tryz.ntmps59
 go_wp2
 refine bodyPost_ret (v := .agg #[.bool b, .slice A n c, .int .i64 (-q)]) (by simp [results, Tryz.results59, go_sem]) rfl ?_
 exact ⟨rfl, below_alloc2 _ _ _⟩

set_option maxRecDepth 100000 in
set_option maxHeartbeats 1000000 in
theorem high_any {b b2 : Bool} {A A2 : Option Addr} {n c n2 c2 : Nat} {q : Int} {w : World} (hq : 0 ≤ q ∧ q ≤ 2048) :
  Calls Tryz.prog 61 #[.agg #[.bool b, .slice A n c, .bool b2, .slice A2 n2 c2, .int .i64 q]] w fun e w' => e = .returned (.agg #[.bool b2, .slice A2 n2 c2, .int .i64 (-q)]) ∧ Below w.heap.size w w' := by
 have hwr : IntKind.i64.wrap (-q) = -q := wrap_in (by omega) (by omega)
 go_enter Tryz.func61, Tryz.ntmps61
 go_wp2
 refine bodyPost_ret (v := .agg #[.bool b2, .slice A2 n2 c2, .int .i64 (-q)]) (by simp [results, Tryz.results61, go_sem]) rfl ?_
 exact ⟨rfl, below_alloc2 _ _ _⟩

end Go.Proofs.YtiikmjnnlckiiaaGreat
namespace Go.Proofs.YtiikmjnnlckiiaaGreat
open Go.RowKit
set_option linter.unusedVariables false

/-- The least of four, in the order in which they come. -/
def mn4 (f : Int → Int → Int) (X Y U V : Int) : Int := min (min (min (f X U) (f X V)) (f Y U)) (f Y V)
def mx4 (f : Int → Int → Int) (X Y U V : Int) : Int := max (max (max (f X U) (f X V)) (f Y U)) (f Y V)
/-- Rounded down; rounded up. -/
def fdI (x y : Int) : Int := if y < 0 then (-x) / (-y) else x / y
def cdI (x y : Int) : Int := -fdI (-x) y
end Go.Proofs.YtiikmjnnlckiiaaGreat
namespace Go.Proofs.YtiikmjnnlckiiaaGreat
open Go.RowKit
set_option linter.unusedVariables false

theorem li_q {q : Int} (h : -4000 ≤ q ∧ q ≤ 4000) : li q = q := by unfold li; omega
theorem Floor_q {b : Bool} {A : Option Addr} {n c : Nat} {X e : Int} {j : Nat} {w : World} (h : Zr w b A n c X j) (q : Int) (hq : -4000 ≤ q ∧ q ≤ 4000) (k : Nat) (hk : j + 128 ≤ k) (hj : k ≤ 1000000) :
  Calls Tryz.prog 58 #[.agg #[.bool b, .slice A n c, .int .i64 e], .int .i64 q] w (OutZ w (flI (cM X e) (cE e + q)) k) := by
 have := DFloor_any (e := e) h q k hk hj
 rw [li_q hq] at this
 exact this
theorem Ceil_q {b : Bool} {A : Option Addr} {n c : Nat} {X e : Int} {j : Nat} {w : World} (h : Zr w b A n c X j) (q : Int) (hq : -4000 ≤ q ∧ q ≤ 4000) (k : Nat) (hk : j + 128 ≤ k) (hj : k ≤ 1000000) :
  Calls Tryz.prog 60 #[.agg #[.bool b, .slice A n c, .int .i64 e], .int .i64 q] w (OutZ w (-flI (-cM X e) (cE e + q)) k) := by
 have := DCeil_any (e := e) h q k hk hj
 rw [li_q hq] at this
 exact this
theorem Floor_at {b : Bool} {A : Option Addr} {n c : Nat} {X e : Int} {j : Nat} {w : World} (h : Zr w b A n c X j) (q : Int) (he : -4000 ≤ e ∧ e ≤ 4000) (hq : -4000 ≤ q ∧ q ≤ 4000) (k : Nat) (hk : j + 128 ≤ k) (hj : k ≤ 1000000) :
  Calls Tryz.prog 58 #[.agg #[.bool b, .slice A n c, .int .i64 e], .int .i64 q] w (OutZ w (flI X (e + q)) k) := by
 have := Floor_q (e := e) h q hq k hk hj
 rw [(c_yes (X := X) he).1, (c_yes (X := X) he).2] at this
 exact this
theorem Ceil_at {b : Bool} {A : Option Addr} {n c : Nat} {X e : Int} {j : Nat} {w : World} (h : Zr w b A n c X j) (q : Int) (he : -4000 ≤ e ∧ e ≤ 4000) (hq : -4000 ≤ q ∧ q ≤ 4000) (k : Nat) (hk : j + 128 ≤ k) (hj : k ≤ 1000000) :
  Calls Tryz.prog 60 #[.agg #[.bool b, .slice A n c, .int .i64 e], .int .i64 q] w (OutZ w (-flI (-X) (e + q)) k) := by
 have := Ceil_q (e := e) h q hq k hk hj
 rw [(c_yes (X := X) he).1, (c_yes (X := X) he).2] at this
 exact this
/-- Two integers handed back. -/
def Out2Z (w : World) (X Y : Int) (k : Nat) (e : Ending) (w' : World) : Prop := ∃ A n c A2 n2 c2, e = .returned (.tuple #[.agg #[.bool (ngB X), .slice A n c], .agg #[.bool (ngB Y), .slice A2 n2 c2]]) ∧ Zn w' A n c X k ∧ Zn w' A2 n2 c2 Y k ∧ Below w.heap.size w w'

set_option maxRecDepth 100000 in
set_option maxHeartbeats 2000000 in
theorem Point_yes {b : Bool} {A : Option Addr} {n c : Nat} {X e : Int} {j : Nat} {w : World} (h : Zr w b A n c X j) (q : Int) (hq : 0 ≤ q ∧ q ≤ 2048) (k : Nat) (hk : j + 128 ≤ k) (hj : k ≤ 1000000) :
  Calls Tryz.prog 97 #[.agg #[.bool b, .slice A n c, .int .i64 e], .int .i64 q] w (OuL w (flI (cM X e) (cE e + q)) (-flI (-cM X e) (cE e + q)) q k) := by
 have HQ := Lib.hid (qB_yes hq)
 obtain ⟨L, hL⟩ : ∃ L, flI (cM X e) (cE e + q) = L := ⟨_, rfl⟩
 obtain ⟨H, hH⟩ : ∃ H, -flI (-cM X e) (cE e + q) = H := ⟨_, rfl⟩
 rw [hL, hH]
 have HL := Lib.hid hL; have HH := Lib.hid hH; clear hL hH
 go_enter Tryz.func97, Tryz.ntmps97
 go_wp2_with fail
 have x_d : Dx (w.alloc (.cells #[.bool b, .slice A n c, .int .i64 e] 75)) (w.heap.size) b A n c e := by have := Dx.new w b A n c e; simpa using this
 replace x_d := x_d.alloc (.cells #[.bool false, .slice none 0 0, .bool false, .slice none 0 0, .int .i64 0] 27)
 have x_r : Lx ((w.alloc (.cells #[.bool b, .slice A n c, .int .i64 e] 75)).alloc (.cells #[.bool false, .slice none 0 0, .bool false, .slice none 0 0, .int .i64 0] 27)) (w.heap.size + 1) false none 0 0 false none 0 0 0 := by have := Lx.new (w.alloc (.cells #[.bool b, .slice A n c, .int .i64 e] 75)) false none 0 0 false none 0 0 0; simpa using this
 have hb : Below w.heap.size w ((w.alloc (.cells #[.bool b, .slice A n c, .int .i64 e] 75)).alloc (.cells #[.bool false, .slice none 0 0, .bool false, .slice none 0 0, .int .i64 0] 27)) := (Below.alloc (Below.alloc (Below.refl w.heap.size w) (by simp) (.cells #[.bool b, .slice A n c, .int .i64 e] 75)) (by simp) (.cells #[.bool false, .slice none 0 0, .bool false, .slice none 0 0, .int .i64 0] 27))
 generalize (w.alloc (.cells #[.bool b, .slice A n c, .int .i64 e] 75)).alloc (.cells #[.bool false, .slice none 0 0, .bool false, .slice none 0 0, .int .i64 0] 27) = v1 at *
 replace h := h.keep hb
 have q_d := x_d.al
 have q_r := x_r.al
 go_wp2_with fail
 with_reducible refine (rightQ_any q).mono ?_
 rintro e v2 ⟨rfl, hb1⟩
 obtain ⟨x_d, x_r, h⟩ := mv3 hb1 x_d x_r h
 replace hb := bthen hb hb1
 clear hb1
 replace q_d := x_d.al
 replace q_r := x_r.al
 rw [HQ.out]
 go_wp2_with fail
 go_region_held3 (fun w' => w'.cell? ⟨w.heap.size, 0, none⟩ = some (.bool b) ∧ w'.cell? ⟨w.heap.size, 1, none⟩ = some (.slice A n c) ∧ w'.cell? ⟨w.heap.size, 2, none⟩ = some (.int .i64 e))
  (first | (with_reducible exact ⟨x_d.c0, x_d.c1, x_d.c2⟩) | (with_reducible exact ⟨(x_d.aside (by omega)).c0, (x_d.aside (by omega)).c1, (x_d.aside (by omega)).c2⟩) | (with_reducible exact ⟨((x_d.aside (by omega)).aside (by omega)).c0, ((x_d.aside (by omega)).aside (by omega)).c1, ((x_d.aside (by omega)).aside (by omega)).c2⟩) | (with_reducible exact ⟨(x_d.asideD (by omega)).c0, (x_d.asideD (by omega)).c1, (x_d.asideD (by omega)).c2⟩) | (with_reducible exact ⟨((x_d.asideD (by omega)).asideD (by omega)).c0, ((x_d.asideD (by omega)).asideD (by omega)).c1, ((x_d.asideD (by omega)).asideD (by omega)).c2⟩) | (with_reducible exact ⟨(x_d.asideL (by omega)).c0, (x_d.asideL (by omega)).c1, (x_d.asideL (by omega)).c2⟩) | (with_reducible exact ⟨((x_d.asideL (by omega)).asideL (by omega)).c0, ((x_d.asideL (by omega)).asideL (by omega)).c1, ((x_d.asideL (by omega)).asideL (by omega)).c2⟩) | go_keep)
  (first | (go_at_call 58; (with_reducible refine (Floor_q h.drw q (by omega) k hk hj).mono ?_); rintro e v3 ⟨A5, n5, c5, rfl, z5, hb1⟩; replace hb1 := undrew hb1; obtain ⟨x_d, x_r, h⟩ := mv3 hb1 x_d x_r h; replace hb := bthen hb hb1; clear hb1; replace q_d := x_d.al; replace q_r := x_r.al; rw [HL.out] at z5 ⊢) | (go_at_call 60; (with_reducible refine (Ceil_q h q (by omega) k hk hj).mono ?_); rintro e v4 ⟨A6, n6, c6, rfl, z6, hb1⟩; obtain ⟨x_d, x_r, h, z5⟩ := mv4 hb1 x_d x_r h z5; replace hb := bthen hb hb1; clear hb1; replace q_d := x_d.al; replace q_r := x_r.al; rw [HH.out] at z6 ⊢))
 go_wp2
 replace x_d := x_d.asideL (b' := (ngB L)) (A' := A5) (n' := n5) (c' := c5) (p' := (ngB H)) (B' := A6) (m' := n6) (d' := c6) (e' := q) (g := w.heap.size + 1) (by omega)
 replace h := h.putL (b' := (ngB L)) (A' := A5) (n' := n5) (c' := c5) (p' := (ngB H)) (B' := A6) (m' := n6) (d' := c6) (e' := q) x_r
 replace z5 := z5.putL (b' := (ngB L)) (A' := A5) (n' := n5) (c' := c5) (p' := (ngB H)) (B' := A6) (m' := n6) (d' := c6) (e' := q) x_r
 replace z6 := z6.putL (b' := (ngB L)) (A' := A5) (n' := n5) (c' := c5) (p' := (ngB H)) (B' := A6) (m' := n6) (d' := c6) (e' := q) x_r
 replace hb := put_belowL (g := w.heap.size + 1) hb (by omega) (.bool (ngB L)) (.slice A5 n5 c5) (.bool (ngB H)) (.slice A6 n6 c6) (.int .i64 q)
 replace x_r := x_r.put (ngB L) A5 n5 c5 (ngB H) A6 n6 c6 q
 clear q_d q_r
 generalize ((((v4.setCell ⟨w.heap.size + 1, 0, none⟩ (.bool (ngB L))).setCell ⟨w.heap.size + 1, 1, none⟩ (.slice A5 n5 c5)).setCell ⟨w.heap.size + 1, 2, none⟩ (.bool (ngB H))).setCell ⟨w.heap.size + 1, 3, none⟩ (.slice A6 n6 c6)).setCell ⟨w.heap.size + 1, 4, none⟩ (.int .i64 q) = v5 at *
 have q_d := x_d.al
 have q_r := x_r.al
 refine bodyPost_ret (v := .tuple #[.agg #[.bool (ngB L), .slice A5 n5 c5, .bool (ngB H), .slice A6 n6 c6, .int .i64 q], .int .i64 0]) (by simp [results, Tryz.results97, go_sem, q_r]) rfl ?_
 exact ⟨_, _, _, _, _, _, rfl, z5, z6, hb⟩

set_option maxRecDepth 100000 in
set_option maxHeartbeats 2000000 in
theorem Recast_yes {b b2 : Bool} {A A2 : Option Addr} {n c n2 c2 : Nat} {X Y q : Int} {j j2 : Nat} {w : World} (h : Zr w b A n c X j) (h2 : Zr w b2 A2 n2 c2 Y j2) (p : Int) (hv : 0 ≤ q ∧ q ≤ 2048 ∧ X ≤ Y) (hp : 0 ≤ p ∧ p ≤ 2048) (k : Nat) (hk : j + 128 ≤ k) (hk2 : j2 + 128 ≤ k) (hj : k ≤ 1000000) :
  Calls Tryz.prog 27 #[.agg #[.bool b, .slice A n c, .bool b2, .slice A2 n2 c2, .int .i64 q], .int .i64 p] w (OuL w (flI X (-q + p)) (-flI (-Y) (-q + p)) p k) := by
 have HQ := Lib.hid (qB_yes hp)
 have HR := Lib.hid (rB_yes hv)
 have hq : 0 ≤ q ∧ q ≤ 2048 := ⟨hv.1, hv.2.1⟩
 clear hv
 obtain ⟨L, hL⟩ : ∃ L, flI X (-q + p) = L := ⟨_, rfl⟩
 obtain ⟨H, hH⟩ : ∃ H, -flI (-Y) (-q + p) = H := ⟨_, rfl⟩
 rw [hL, hH]
 have HL := Lib.hid hL; have HH := Lib.hid hH; clear hL hH
 go_enter Tryz.func27, Tryz.ntmps27
 go_wp2_with fail
 have x_a : Lx (w.alloc (.cells #[.bool b, .slice A n c, .bool b2, .slice A2 n2 c2, .int .i64 q] 27)) (w.heap.size) b A n c b2 A2 n2 c2 q := by have := Lx.new w b A n c b2 A2 n2 c2 q; simpa using this
 replace x_a := x_a.alloc (.cells #[.bool false, .slice none 0 0, .bool false, .slice none 0 0, .int .i64 0] 27)
 have x_r : Lx ((w.alloc (.cells #[.bool b, .slice A n c, .bool b2, .slice A2 n2 c2, .int .i64 q] 27)).alloc (.cells #[.bool false, .slice none 0 0, .bool false, .slice none 0 0, .int .i64 0] 27)) (w.heap.size + 1) false none 0 0 false none 0 0 0 := by have := Lx.new (w.alloc (.cells #[.bool b, .slice A n c, .bool b2, .slice A2 n2 c2, .int .i64 q] 27)) false none 0 0 false none 0 0 0; simpa using this
 have hb : Below w.heap.size w ((w.alloc (.cells #[.bool b, .slice A n c, .bool b2, .slice A2 n2 c2, .int .i64 q] 27)).alloc (.cells #[.bool false, .slice none 0 0, .bool false, .slice none 0 0, .int .i64 0] 27)) := (Below.alloc (Below.alloc (Below.refl w.heap.size w) (by simp) (.cells #[.bool b, .slice A n c, .bool b2, .slice A2 n2 c2, .int .i64 q] 27)) (by simp) (.cells #[.bool false, .slice none 0 0, .bool false, .slice none 0 0, .int .i64 0] 27))
 generalize (w.alloc (.cells #[.bool b, .slice A n c, .bool b2, .slice A2 n2 c2, .int .i64 q] 27)).alloc (.cells #[.bool false, .slice none 0 0, .bool false, .slice none 0 0, .int .i64 0] 27) = v1 at *
 obtain ⟨h, h2⟩ := mv2 hb h h2
 have q_a := x_a.al
 have q_r := x_r.al
 go_wp2_with fail
 with_reducible refine (Right_any h h2 (by omega) (by omega)).mono ?_
 rintro e v2 ⟨rfl, hb1⟩
 obtain ⟨x_a, x_r, h, h2⟩ := mv4 hb1 x_a x_r h h2
 replace hb := bthen hb hb1
 clear hb1
 replace q_a := x_a.al
 replace q_r := x_r.al
 rw [HR.out]
 go_wp2_with fail
 with_reducible refine (rightQ_any p).mono ?_
 rintro e v3 ⟨rfl, hb1⟩
 obtain ⟨x_a, x_r, h, h2⟩ := mv4 hb1 x_a x_r h h2
 replace hb := bthen hb hb1
 clear hb1
 replace q_a := x_a.al
 replace q_r := x_r.al
 rw [HQ.out]
 go_wp2_with fail
 go_region_held3 (fun w' => w'.cell? ⟨w.heap.size, 0, none⟩ = some (.bool b) ∧ w'.cell? ⟨w.heap.size, 1, none⟩ = some (.slice A n c) ∧ w'.cell? ⟨w.heap.size, 2, none⟩ = some (.bool b2) ∧ w'.cell? ⟨w.heap.size, 3, none⟩ = some (.slice A2 n2 c2) ∧ w'.cell? ⟨w.heap.size, 4, none⟩ = some (.int .i64 q))
  (first | (with_reducible exact ⟨x_a.c0, x_a.c1, x_a.c2, x_a.c3, x_a.c4⟩) | (with_reducible exact ⟨(x_a.aside (by omega)).c0, (x_a.aside (by omega)).c1, (x_a.aside (by omega)).c2, (x_a.aside (by omega)).c3, (x_a.aside (by omega)).c4⟩) | (with_reducible exact ⟨((x_a.aside (by omega)).aside (by omega)).c0, ((x_a.aside (by omega)).aside (by omega)).c1, ((x_a.aside (by omega)).aside (by omega)).c2, ((x_a.aside (by omega)).aside (by omega)).c3, ((x_a.aside (by omega)).aside (by omega)).c4⟩) | (with_reducible exact ⟨(x_a.asideD (by omega)).c0, (x_a.asideD (by omega)).c1, (x_a.asideD (by omega)).c2, (x_a.asideD (by omega)).c3, (x_a.asideD (by omega)).c4⟩) | (with_reducible exact ⟨((x_a.asideD (by omega)).asideD (by omega)).c0, ((x_a.asideD (by omega)).asideD (by omega)).c1, ((x_a.asideD (by omega)).asideD (by omega)).c2, ((x_a.asideD (by omega)).asideD (by omega)).c3, ((x_a.asideD (by omega)).asideD (by omega)).c4⟩) | (with_reducible exact ⟨(x_a.asideL (by omega)).c0, (x_a.asideL (by omega)).c1, (x_a.asideL (by omega)).c2, (x_a.asideL (by omega)).c3, (x_a.asideL (by omega)).c4⟩) | (with_reducible exact ⟨((x_a.asideL (by omega)).asideL (by omega)).c0, ((x_a.asideL (by omega)).asideL (by omega)).c1, ((x_a.asideL (by omega)).asideL (by omega)).c2, ((x_a.asideL (by omega)).asideL (by omega)).c3, ((x_a.asideL (by omega)).asideL (by omega)).c4⟩) | go_keep)
  (first | (go_at_call 59; (with_reducible refine (low_any hq).mono ?_); rintro e v4 ⟨rfl, hb1⟩; replace hb1 := undrew hb1; obtain ⟨x_a, x_r, h, h2⟩ := mv4 hb1 x_a x_r h h2; replace hb := bthen hb hb1; clear hb1; replace q_a := x_a.al; replace q_r := x_r.al) | (go_at_call 58; (with_reducible refine (Floor_at h p (by omega) (by omega) k hk hj).mono ?_); rintro e v5 ⟨A5, n5, c5, rfl, z5, hb1⟩; obtain ⟨x_a, x_r, h, h2⟩ := mv4 hb1 x_a x_r h h2; replace hb := bthen hb hb1; clear hb1; replace q_a := x_a.al; replace q_r := x_r.al; rw [HL.out] at z5 ⊢) | (go_at_call 61; (with_reducible refine (high_any hq).mono ?_); rintro e v6 ⟨rfl, hb1⟩; obtain ⟨x_a, x_r, h, h2, z5⟩ := mv5 hb1 x_a x_r h h2 z5; replace hb := bthen hb hb1; clear hb1; replace q_a := x_a.al; replace q_r := x_r.al) | (go_at_call 60; (with_reducible refine (Ceil_at h2 p (by omega) (by omega) k hk2 hj).mono ?_); rintro e v7 ⟨A6, n6, c6, rfl, z6, hb1⟩; obtain ⟨x_a, x_r, h, h2, z5⟩ := mv5 hb1 x_a x_r h h2 z5; replace hb := bthen hb hb1; clear hb1; replace q_a := x_a.al; replace q_r := x_r.al; rw [HH.out] at z6 ⊢))
 go_wp2
 replace x_a := x_a.asideL (b' := (ngB L)) (A' := A5) (n' := n5) (c' := c5) (p' := (ngB H)) (B' := A6) (m' := n6) (d' := c6) (e' := p) (g := w.heap.size + 1) (by omega)
 replace h := h.putL (b' := (ngB L)) (A' := A5) (n' := n5) (c' := c5) (p' := (ngB H)) (B' := A6) (m' := n6) (d' := c6) (e' := p) x_r
 replace h2 := h2.putL (b' := (ngB L)) (A' := A5) (n' := n5) (c' := c5) (p' := (ngB H)) (B' := A6) (m' := n6) (d' := c6) (e' := p) x_r
 replace z5 := z5.putL (b' := (ngB L)) (A' := A5) (n' := n5) (c' := c5) (p' := (ngB H)) (B' := A6) (m' := n6) (d' := c6) (e' := p) x_r
 replace z6 := z6.putL (b' := (ngB L)) (A' := A5) (n' := n5) (c' := c5) (p' := (ngB H)) (B' := A6) (m' := n6) (d' := c6) (e' := p) x_r
 replace hb := put_belowL (g := w.heap.size + 1) hb (by omega) (.bool (ngB L)) (.slice A5 n5 c5) (.bool (ngB H)) (.slice A6 n6 c6) (.int .i64 p)
 replace x_r := x_r.put (ngB L) A5 n5 c5 (ngB H) A6 n6 c6 p
 clear q_a q_r
 generalize ((((v7.setCell ⟨w.heap.size + 1, 0, none⟩ (.bool (ngB L))).setCell ⟨w.heap.size + 1, 1, none⟩ (.slice A5 n5 c5)).setCell ⟨w.heap.size + 1, 2, none⟩ (.bool (ngB H))).setCell ⟨w.heap.size + 1, 3, none⟩ (.slice A6 n6 c6)).setCell ⟨w.heap.size + 1, 4, none⟩ (.int .i64 p) = v8 at *
 have q_a := x_a.al
 have q_r := x_r.al
 refine bodyPost_ret (v := .tuple #[.agg #[.bool (ngB L), .slice A5 n5 c5, .bool (ngB H), .slice A6 n6 c6, .int .i64 p], .int .i64 0]) (by simp [results, Tryz.results27, go_sem, q_r]) rfl ?_
 exact ⟨_, _, _, _, _, _, rfl, z5, z6, hb⟩

end Go.Proofs.YtiikmjnnlckiiaaGreat
