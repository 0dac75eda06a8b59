/-
  the document's answers for ball: Right, Point, Recast, Equal.
-/
import Derived.Test.YtiigacddjihokaaGreatDoorLpoint
import Derived.Test.YtiigacddjihokaaGreatDoorLclos
import Derived.Test.YtiigacddjihokaaGreatDoorPi
namespace Go.Proofs.YtiigacddjihokaaGreatDoor
open Go.RowKit
set_option linter.unusedVariables false

/-- A ball and an error number handed back, whichever. -/
def OuR (w : World) (X Y q x : Int) (k : Nat) (e : Ending) (w' : World) : Prop := ∃ A n c A2 n2 c2, e = .returned (.tuple #[.agg #[.bool (ngB X), .slice A n c, .bool (ngB Y), .slice A2 n2 c2, .int .i64 q], .int .i64 x]) ∧ Zn w' A n c X k ∧ Zn w' A2 n2 c2 Y k ∧ Below w.heap.size w w'
theorem OuR.ok {w w' : World} {X Y q : Int} {k : Nat} {e : Ending} (h : OuL w X Y q k e w') : OuR w X Y q 0 k e w' := h
theorem OuR.err {w w' : World} {x : Int} {k : Nat} {e : Ending} (h : ErrL w x e w') : OuR w 0 0 0 x k e w' := ⟨_, _, _, _, _, _, h.1, Zn.nil0 _ _, Zn.nil0 _ _, h.2⟩
theorem rB_cases (X Y q : Int) : (¬ X ≤ Y) ∨ (X ≤ Y ∧ q < 0) ∨ (X ≤ Y ∧ 0 ≤ q ∧ ¬ q ≤ 2048) ∨ (X ≤ Y ∧ 0 ≤ q ∧ q ≤ 2048) := by omega
theorem fl_shl {X n : Int} (h : n < 0) (h1 : -8000 ≤ n) : X * 2 ^ sc (-n) = flI X (-n) := by unfold flI; rw [if_neg (by omega), sc_toNat (by omega) (by omega)]
theorem fl_shr {X n : Int} (h : 0 ≤ n) (h1 : n ≤ 8000) : X / 2 ^ sc n = flI X (-n) := by
  unfold flI
  rcases Int.lt_or_le 0 n with h2 | h2
  · rw [if_pos (by omega), Int.neg_neg, sc_toNat (by omega) (by omega)]
  · obtain rfl : n = 0 := by omega
    rw [if_neg (by omega), sc_toNat (by omega) (by omega)]
    simp

set_option maxRecDepth 100000 in
set_option maxHeartbeats 2000000 in
theorem RRight_any {b b2 : Bool} {A A2 : Option Addr} {n c n2 c2 : Nat} {X Y q : Int} {j j2 : Nat} {w : World} (h : Zr w b A n c X j) (h2 : Zr w b2 A2 n2 c2 Y j2) (hj : j ≤ 10000) (hj2 : j2 ≤ 10000) :
    Calls Tryz.prog 16 #[.agg #[.bool b, .slice A n c, .bool b2, .slice A2 n2 c2, .int .i64 q]] w fun e w' => e = .returned (.bool (rB X Y q)) ∧ Below w.heap.size w w' := by
  have i1 := sgn_le (X := X) (Y := Y)
  obtain ⟨C, hC⟩ : ∃ C, sgnI (X - Y) = C := ⟨_, rfl⟩
  rw [hC] at i1
  have HC := Lib.hid hC; clear hC
  rcases rB_cases X Y q with a | ⟨a, o1⟩ | ⟨a, o1, o2⟩ | ⟨a, o1, o2⟩
  · have HF := Lib.hid (rB_no (X := X) (Y := Y) (q := q) (by omega))
    have hd : ¬ C ≤ 0 := by omega
    clear i1 a
    go_enter Tryz.func16, Tryz.ntmps16
    go_wp2_with fail
    have x_a : Lx (w.alloc (.cells #[.bool b, .slice A n c, .bool b2, .slice A2 n2 c2, .int .i64 q] 26)) (w.heap.size) b A n c b2 A2 n2 c2 q := by have := Lx.new w b A n c b2 A2 n2 c2 q; simpa using this
    have hb : Below w.heap.size w (w.alloc (.cells #[.bool b, .slice A n c, .bool b2, .slice A2 n2 c2, .int .i64 q] 26)) := (Below.alloc (Below.refl w.heap.size w) (by simp) (.cells #[.bool b, .slice A n c, .bool b2, .slice A2 n2 c2, .int .i64 q] 26))
    generalize w.alloc (.cells #[.bool b, .slice A n c, .bool b2, .slice A2 n2 c2, .int .i64 q] 26) = v1 at *
    replace h := h.keep hb
    replace h2 := h2.keep hb
    obtain ⟨q_a0, f_a0, q_a1, f_a1, q_a2, f_a2, q_a3, f_a3, q_a4, f_a4⟩ := x_a.al
    go_wp2_with fail
    with_reducible refine (RCmpZ_any h h2 20000 (by omega) (by omega) (by omega)).mono ?_
    rintro e v2 ⟨rfl, hb1⟩
    replace x_a := x_a.keep hb1
    replace h := h.keep hb1
    replace h2 := h2.keep hb1
    replace hb := bthen hb hb1
    clear hb1
    clear q_a0 f_a0 q_a1 f_a1 q_a2 f_a2 q_a3 f_a3 q_a4 f_a4; obtain ⟨q_a0, f_a0, q_a1, f_a1, q_a2, f_a2, q_a3, f_a3, q_a4, f_a4⟩ := x_a.al
    rw [HC.out]
    go_wp2
    go_ret
    exact ⟨qB_bool HF.out.symm, hb⟩
  · have HF := Lib.hid (rB_no (X := X) (Y := Y) (q := q) (by omega))
    have hd : C ≤ 0 := by omega
    have o3 : ¬ 0 ≤ q := by omega
    clear i1 a
    go_enter Tryz.func16, Tryz.ntmps16
    go_wp2_with fail
    have x_a : Lx (w.alloc (.cells #[.bool b, .slice A n c, .bool b2, .slice A2 n2 c2, .int .i64 q] 26)) (w.heap.size) b A n c b2 A2 n2 c2 q := by have := Lx.new w b A n c b2 A2 n2 c2 q; simpa using this
    have hb : Below w.heap.size w (w.alloc (.cells #[.bool b, .slice A n c, .bool b2, .slice A2 n2 c2, .int .i64 q] 26)) := (Below.alloc (Below.refl w.heap.size w) (by simp) (.cells #[.bool b, .slice A n c, .bool b2, .slice A2 n2 c2, .int .i64 q] 26))
    generalize w.alloc (.cells #[.bool b, .slice A n c, .bool b2, .slice A2 n2 c2, .int .i64 q] 26) = v1 at *
    replace h := h.keep hb
    replace h2 := h2.keep hb
    obtain ⟨q_a0, f_a0, q_a1, f_a1, q_a2, f_a2, q_a3, f_a3, q_a4, f_a4⟩ := x_a.al
    go_wp2_with fail
    with_reducible refine (RCmpZ_any h h2 20000 (by omega) (by omega) (by omega)).mono ?_
    rintro e v2 ⟨rfl, hb1⟩
    replace x_a := x_a.keep hb1
    replace h := h.keep hb1
    replace h2 := h2.keep hb1
    replace hb := bthen hb hb1
    clear hb1
    clear q_a0 f_a0 q_a1 f_a1 q_a2 f_a2 q_a3 f_a3 q_a4 f_a4; obtain ⟨q_a0, f_a0, q_a1, f_a1, q_a2, f_a2, q_a3, f_a3, q_a4, f_a4⟩ := x_a.al
    rw [HC.out]
    go_wp2
    go_ret
    exact ⟨qB_bool HF.out.symm, hb⟩
  · have HF := Lib.hid (rB_no (X := X) (Y := Y) (q := q) (by omega))
    have hd : C ≤ 0 := by omega
    clear i1 a
    go_enter Tryz.func16, Tryz.ntmps16
    go_wp2_with fail
    have x_a : Lx (w.alloc (.cells #[.bool b, .slice A n c, .bool b2, .slice A2 n2 c2, .int .i64 q] 26)) (w.heap.size) b A n c b2 A2 n2 c2 q := by have := Lx.new w b A n c b2 A2 n2 c2 q; simpa using this
    have hb : Below w.heap.size w (w.alloc (.cells #[.bool b, .slice A n c, .bool b2, .slice A2 n2 c2, .int .i64 q] 26)) := (Below.alloc (Below.refl w.heap.size w) (by simp) (.cells #[.bool b, .slice A n c, .bool b2, .slice A2 n2 c2, .int .i64 q] 26))
    generalize w.alloc (.cells #[.bool b, .slice A n c, .bool b2, .slice A2 n2 c2, .int .i64 q] 26) = v1 at *
    replace h := h.keep hb
    replace h2 := h2.keep hb
    obtain ⟨q_a0, f_a0, q_a1, f_a1, q_a2, f_a2, q_a3, f_a3, q_a4, f_a4⟩ := x_a.al
    go_wp2_with fail
    with_reducible refine (RCmpZ_any h h2 20000 (by omega) (by omega) (by omega)).mono ?_
    rintro e v2 ⟨rfl, hb1⟩
    replace x_a := x_a.keep hb1
    replace h := h.keep hb1
    replace h2 := h2.keep hb1
    replace hb := bthen hb hb1
    clear hb1
    clear q_a0 f_a0 q_a1 f_a1 q_a2 f_a2 q_a3 f_a3 q_a4 f_a4; obtain ⟨q_a0, f_a0, q_a1, f_a1, q_a2, f_a2, q_a3, f_a3, q_a4, f_a4⟩ := x_a.al
    rw [HC.out]
    go_wp2
    go_ret
    exact ⟨qB_bool ((dec_no (p := q ≤ 2048) (by omega)).trans HF.out.symm), hb⟩
  · have HF := Lib.hid (rB_yes (X := X) (Y := Y) (q := q) (by omega))
    have hd : C ≤ 0 := by omega
    clear i1 a
    go_enter Tryz.func16, Tryz.ntmps16
    go_wp2_with fail
    have x_a : Lx (w.alloc (.cells #[.bool b, .slice A n c, .bool b2, .slice A2 n2 c2, .int .i64 q] 26)) (w.heap.size) b A n c b2 A2 n2 c2 q := by have := Lx.new w b A n c b2 A2 n2 c2 q; simpa using this
    have hb : Below w.heap.size w (w.alloc (.cells #[.bool b, .slice A n c, .bool b2, .slice A2 n2 c2, .int .i64 q] 26)) := (Below.alloc (Below.refl w.heap.size w) (by simp) (.cells #[.bool b, .slice A n c, .bool b2, .slice A2 n2 c2, .int .i64 q] 26))
    generalize w.alloc (.cells #[.bool b, .slice A n c, .bool b2, .slice A2 n2 c2, .int .i64 q] 26) = v1 at *
    replace h := h.keep hb
    replace h2 := h2.keep hb
    obtain ⟨q_a0, f_a0, q_a1, f_a1, q_a2, f_a2, q_a3, f_a3, q_a4, f_a4⟩ := x_a.al
    go_wp2_with fail
    with_reducible refine (RCmpZ_any h h2 20000 (by omega) (by omega) (by omega)).mono ?_
    rintro e v2 ⟨rfl, hb1⟩
    replace x_a := x_a.keep hb1
    replace h := h.keep hb1
    replace h2 := h2.keep hb1
    replace hb := bthen hb hb1
    clear hb1
    clear q_a0 f_a0 q_a1 f_a1 q_a2 f_a2 q_a3 f_a3 q_a4 f_a4; obtain ⟨q_a0, f_a0, q_a1, f_a1, q_a2, f_a2, q_a3, f_a3, q_a4, f_a4⟩ := x_a.al
    rw [HC.out]
    go_wp2
    go_ret
    exact ⟨qB_bool HF.out.symm, hb⟩

theorem RFloor_q {b : Bool} {A : Option Addr} {n c : Nat} {X e : Int} {j : Nat} {w : World} (h : Zr w b A n c X j) (q : Int) (hq : 0 ≤ q ∧ q ≤ 2048) (hj : j ≤ 12) :
    Calls Tryz.prog 43 #[.agg #[.bool b, .slice A n c, .int .i64 e], .int .i64 q] w (OutZ w (flI (cM X e) (cE e + q)) 300) := by
  have := RFloor_any (e := e) h q 300 (by omega) hj (by omega)
  rw [li_q ⟨by omega, by omega⟩] at this
  exact this
theorem RCeil_q {b : Bool} {A : Option Addr} {n c : Nat} {X e : Int} {j : Nat} {w : World} (h : Zr w b A n c X j) (q : Int) (hq : 0 ≤ q ∧ q ≤ 2048) (hj : j ≤ 12) :
    Calls Tryz.prog 44 #[.agg #[.bool b, .slice A n c, .int .i64 e], .int .i64 q] w (OutZ w (-flI (-cM X e) (cE e + q)) 300) := by
  have := RCeil_any (e := e) h q 300 (by omega) hj (by omega)
  rw [li_q ⟨by omega, by omega⟩] at this
  exact this
set_option maxRecDepth 100000 in
set_option maxHeartbeats 2000000 in
theorem RPoint_yes {b : Bool} {A : Option Addr} {n c : Nat} {X e : Int} {j : Nat} {w : World} (h : Zr w b A n c X j) (q : Int) (hq : 0 ≤ q ∧ q ≤ 2048) (hj : j ≤ 12) :
    Calls Tryz.prog 11 #[.agg #[.bool b, .slice A n c, .int .i64 e], .int .i64 q] w (OuL w (flI (cM X e) (cE e + q)) (-flI (-cM X e) (cE e + q)) q 300) := by
  obtain ⟨L, hL⟩ : ∃ L, flI (cM X e) (cE e + q) = L := ⟨_, rfl⟩
  obtain ⟨H, hH⟩ : ∃ H, -flI (-cM X e) (cE e + q) = H := ⟨_, rfl⟩
  rw [hL, hH]
  have HL := Lib.hid hL; have HH := Lib.hid hH; clear hL hH
  have o1 : ¬ q < 0 := by omega
  have o2 : ¬ 2048 < q := by omega
  go_enter Tryz.func11, Tryz.ntmps11
  go_wp2_with fail
  have x_d : Dx (w.alloc (.cells #[.bool b, .slice A n c, .int .i64 e] 28)) (w.heap.size) b A n c e := by have := Dx.new w b A n c e; simpa using this
  replace x_d := x_d.alloc (.cells #[.bool false, .slice none 0 0, .bool false, .slice none 0 0, .int .i64 0] 26)
  have x_r : Lx ((w.alloc (.cells #[.bool b, .slice A n c, .int .i64 e] 28)).alloc (.cells #[.bool false, .slice none 0 0, .bool false, .slice none 0 0, .int .i64 0] 26)) (w.heap.size + 1) false none 0 0 false none 0 0 0 := by have := Lx.new (w.alloc (.cells #[.bool b, .slice A n c, .int .i64 e] 28)) false none 0 0 false none 0 0 0; simpa using this
  have hb : Below w.heap.size w ((w.alloc (.cells #[.bool b, .slice A n c, .int .i64 e] 28)).alloc (.cells #[.bool false, .slice none 0 0, .bool false, .slice none 0 0, .int .i64 0] 26)) := (Below.alloc (Below.alloc (Below.refl w.heap.size w) (by simp) (.cells #[.bool b, .slice A n c, .int .i64 e] 28)) (by simp) (.cells #[.bool false, .slice none 0 0, .bool false, .slice none 0 0, .int .i64 0] 26))
  generalize (w.alloc (.cells #[.bool b, .slice A n c, .int .i64 e] 28)).alloc (.cells #[.bool false, .slice none 0 0, .bool false, .slice none 0 0, .int .i64 0] 26) = v1 at *
  replace h := h.keep hb
  obtain ⟨q_d0, f_d0, q_d1, f_d1, q_d2, f_d2⟩ := x_d.al
  obtain ⟨q_r0, f_r0, q_r1, f_r1, q_r2, f_r2, q_r3, f_r3, q_r4, f_r4⟩ := x_r.al
  go_wp2_with fail
  go_region_held3 (fun w' => w'.cell? ⟨w.heap.size, 0, none⟩ = some (.bool b) ∧ w'.cell? ⟨w.heap.size, 1, none⟩ = some (.slice A n c) ∧ w'.cell? ⟨w.heap.size, 2, none⟩ = some (.int .i64 e))
    (first | (with_reducible exact ⟨x_d.c0, x_d.c1, x_d.c2⟩) | (with_reducible exact ⟨(x_d.aside (by omega)).c0, (x_d.aside (by omega)).c1, (x_d.aside (by omega)).c2⟩) | (with_reducible exact ⟨((x_d.aside (by omega)).aside (by omega)).c0, ((x_d.aside (by omega)).aside (by omega)).c1, ((x_d.aside (by omega)).aside (by omega)).c2⟩) | (with_reducible exact ⟨(x_d.asideD (by omega)).c0, (x_d.asideD (by omega)).c1, (x_d.asideD (by omega)).c2⟩) | (with_reducible exact ⟨((x_d.asideD (by omega)).asideD (by omega)).c0, ((x_d.asideD (by omega)).asideD (by omega)).c1, ((x_d.asideD (by omega)).asideD (by omega)).c2⟩) | (with_reducible exact ⟨(x_d.asideL (by omega)).c0, (x_d.asideL (by omega)).c1, (x_d.asideL (by omega)).c2⟩) | (with_reducible exact ⟨((x_d.asideL (by omega)).asideL (by omega)).c0, ((x_d.asideL (by omega)).asideL (by omega)).c1, ((x_d.asideL (by omega)).asideL (by omega)).c2⟩) | go_keep)
    (first | (go_at_call 43; (with_reducible refine (RFloor_q h.drw q hq hj).mono ?_); rintro e v2 ⟨A5, n5, c5, rfl, z5, hb1⟩; replace hb1 := undrew hb1; replace x_d := x_d.keep hb1; replace x_r := x_r.keep hb1; replace h := h.keep hb1; replace hb := bthen hb hb1; clear hb1; clear q_d0 f_d0 q_d1 f_d1 q_d2 f_d2; obtain ⟨q_d0, f_d0, q_d1, f_d1, q_d2, f_d2⟩ := x_d.al; clear q_r0 f_r0 q_r1 f_r1 q_r2 f_r2 q_r3 f_r3 q_r4 f_r4; obtain ⟨q_r0, f_r0, q_r1, f_r1, q_r2, f_r2, q_r3, f_r3, q_r4, f_r4⟩ := x_r.al; rw [HL.out] at z5 ⊢) | (go_at_call 44; (with_reducible refine (RCeil_q h q hq hj).mono ?_); rintro e v3 ⟨A6, n6, c6, rfl, z6, hb1⟩; replace x_d := x_d.keep hb1; replace x_r := x_r.keep hb1; replace h := h.keep hb1; replace z5 := z5.keep hb1; replace hb := bthen hb hb1; clear hb1; clear q_d0 f_d0 q_d1 f_d1 q_d2 f_d2; obtain ⟨q_d0, f_d0, q_d1, f_d1, q_d2, f_d2⟩ := x_d.al; clear q_r0 f_r0 q_r1 f_r1 q_r2 f_r2 q_r3 f_r3 q_r4 f_r4; obtain ⟨q_r0, f_r0, q_r1, f_r1, q_r2, f_r2, q_r3, f_r3, q_r4, f_r4⟩ := x_r.al; rw [HH.out] at z6 ⊢))
  go_wp2
  replace x_d := x_d.asideL (b' := (ngB L)) (A' := A5) (n' := n5) (c' := c5) (p' := (ngB H)) (B' := A6) (m' := n6) (d' := c6) (e' := q) (g := w.heap.size + 1) (by omega)
  replace h := h.putL (b' := (ngB L)) (A' := A5) (n' := n5) (c' := c5) (p' := (ngB H)) (B' := A6) (m' := n6) (d' := c6) (e' := q) x_r
  replace z5 := z5.putL (b' := (ngB L)) (A' := A5) (n' := n5) (c' := c5) (p' := (ngB H)) (B' := A6) (m' := n6) (d' := c6) (e' := q) x_r
  replace z6 := z6.putL (b' := (ngB L)) (A' := A5) (n' := n5) (c' := c5) (p' := (ngB H)) (B' := A6) (m' := n6) (d' := c6) (e' := q) x_r
  replace hb := put_belowL (g := w.heap.size + 1) hb (by omega) (.bool (ngB L)) (.slice A5 n5 c5) (.bool (ngB H)) (.slice A6 n6 c6) (.int .i64 q)
  replace x_r := x_r.put (ngB L) A5 n5 c5 (ngB H) A6 n6 c6 q
  clear q_d0 f_d0 q_d1 f_d1 q_d2 f_d2 q_r0 f_r0 q_r1 f_r1 q_r2 f_r2 q_r3 f_r3 q_r4 f_r4
  generalize ((((v3.setCell ⟨w.heap.size + 1, 0, none⟩ (.bool (ngB L))).setCell ⟨w.heap.size + 1, 1, none⟩ (.slice A5 n5 c5)).setCell ⟨w.heap.size + 1, 2, none⟩ (.bool (ngB H))).setCell ⟨w.heap.size + 1, 3, none⟩ (.slice A6 n6 c6)).setCell ⟨w.heap.size + 1, 4, none⟩ (.int .i64 q) = v4 at *
  obtain ⟨q_d0, f_d0, q_d1, f_d1, q_d2, f_d2⟩ := x_d.al
  obtain ⟨q_r0, f_r0, q_r1, f_r1, q_r2, f_r2, q_r3, f_r3, q_r4, f_r4⟩ := x_r.al
  refine bodyPost_ret (v := .tuple #[.agg #[.bool (ngB L), .slice A5 n5 c5, .bool (ngB H), .slice A6 n6 c6, .int .i64 q], .int .i64 0]) (by simp [results, Tryz.results11, go_sem, q_r0, q_r1, q_r2, q_r3, q_r4]) rfl ?_
  exact ⟨_, _, _, _, _, _, rfl, z5, z6, hb⟩

set_option maxRecDepth 100000 in
set_option maxHeartbeats 2000000 in
theorem RPoint_no {b : Bool} {A : Option Addr} {n c : Nat} {e : Int} {w : World} (q : Int) (hq : ¬ (0 ≤ q ∧ q ≤ 2048)) :
    Calls Tryz.prog 11 #[.agg #[.bool b, .slice A n c, .int .i64 e], .int .i64 q] w (ErrL w 1) := by
  rcases (show q < 0 ∨ (¬ q < 0 ∧ 2048 < q) by omega) with o1 | ⟨o1, o2⟩ <;> clear hq
  · skip
    go_enter Tryz.func11, Tryz.ntmps11
    go_wp2
    refine bodyPost_ret (v := .tuple #[.agg #[.bool false, .slice none 0 0, .bool false, .slice none 0 0, .int .i64 0], .int .i64 1]) (by simp [results, Tryz.results11, go_sem]) rfl ?_
    exact ⟨rfl, below_alloc2 _ _ _⟩
  · skip
    go_enter Tryz.func11, Tryz.ntmps11
    go_wp2
    refine bodyPost_ret (v := .tuple #[.agg #[.bool false, .slice none 0 0, .bool false, .slice none 0 0, .int .i64 0], .int .i64 1]) (by simp [results, Tryz.results11, go_sem]) rfl ?_
    exact ⟨rfl, below_alloc2 _ _ _⟩

set_option maxRecDepth 100000 in
set_option maxHeartbeats 2000000 in
theorem RDown_any {b : Bool} {A : Option Addr} {n c : Nat} {X : Int} {j : Nat} {w : World} (h : Zr w b A n c X j) (i : Int) (hi : -8000 ≤ i ∧ i ≤ 8000) (k : Nat) (hk : j + 130 ≤ k) (hj : k ≤ 100000) :
    Calls Tryz.prog 47 #[.agg #[.bool b, .slice A n c], .int .i64 i] w (OutZ w (flI X (-i)) k) := by
  obtain ⟨L, hL⟩ : ∃ L, flI X (-i) = L := ⟨_, rfl⟩
  rw [hL]
  rcases Int.lt_or_le i 0 with o1 | o1
  · have HL := Lib.hid ((fl_shl (X := X) o1 hi.1).trans hL)
    clear hL
    have hwr : IntKind.i64.wrap (-i) = -i := wrap_in (by omega) (by omega)
    go_enter Tryz.func47, Tryz.ntmps47
    go_wp2_with fail
    have x_a : Bx (w.alloc (.cells #[.bool b, .slice A n c] 24)) (w.heap.size) b A n c := by have := Bx.new w b A n c; simpa using this
    replace x_a := x_a.alloc (.cells #[.bool false, .slice none 0 0] 24)
    have x_r : Bx ((w.alloc (.cells #[.bool b, .slice A n c] 24)).alloc (.cells #[.bool false, .slice none 0 0] 24)) (w.heap.size + 1) false none 0 0 := by have := Bx.new (w.alloc (.cells #[.bool b, .slice A n c] 24)) false none 0 0; simpa using this
    have hb : Below w.heap.size w ((w.alloc (.cells #[.bool b, .slice A n c] 24)).alloc (.cells #[.bool false, .slice none 0 0] 24)) := (Below.alloc (Below.alloc (Below.refl w.heap.size w) (by simp) (.cells #[.bool b, .slice A n c] 24)) (by simp) (.cells #[.bool false, .slice none 0 0] 24))
    generalize (w.alloc (.cells #[.bool b, .slice A n c] 24)).alloc (.cells #[.bool false, .slice none 0 0] 24) = v1 at *
    replace h := h.keep hb
    obtain ⟨q_a0, f_a0, q_a1, f_a1⟩ := x_a.al
    obtain ⟨q_r0, f_r0, q_r1, f_r1⟩ := x_r.al
    go_wp2_with fail
    with_reducible refine (RShlZ_any h (-i) k (by omega) hj).mono ?_
    rintro e v2 ⟨A5, n5, c5, rfl, z5, hb1⟩
    replace x_a := x_a.keep hb1
    replace x_r := x_r.keep hb1
    replace h := h.keep hb1
    replace hb := bthen hb hb1
    clear hb1
    clear q_a0 f_a0 q_a1 f_a1; obtain ⟨q_a0, f_a0, q_a1, f_a1⟩ := x_a.al
    clear q_r0 f_r0 q_r1 f_r1; obtain ⟨q_r0, f_r0, q_r1, f_r1⟩ := x_r.al
    rw [HL.out] at z5 ⊢
    go_wp2
    replace x_a := x_a.aside (b' := (ngB L)) (A' := A5) (n' := n5) (c' := c5) (g := w.heap.size + 1) (by omega)
    replace h := h.put (b' := (ngB L)) (A' := A5) (n' := n5) (c' := c5) x_r
    replace z5 := z5.put (b' := (ngB L)) (A' := A5) (n' := n5) (c' := c5) x_r
    replace hb := put_below (g := w.heap.size + 1) hb (by omega) (.bool (ngB L)) (.slice A5 n5 c5)
    replace x_r := x_r.put (ngB L) A5 n5 c5
    clear q_a0 f_a0 q_a1 f_a1 q_r0 f_r0 q_r1 f_r1
    generalize (v2.setCell ⟨w.heap.size + 1, 0, none⟩ (.bool (ngB L))).setCell ⟨w.heap.size + 1, 1, none⟩ (.slice A5 n5 c5) = v3 at *
    obtain ⟨q_a0, f_a0, q_a1, f_a1⟩ := x_a.al
    obtain ⟨q_r0, f_r0, q_r1, f_r1⟩ := x_r.al
    refine bodyPost_ret (v := .agg #[.bool (ngB L), .slice A5 n5 c5]) (by simp [results, Tryz.results47, go_sem, q_r0, q_r1]) rfl ?_
    exact ⟨_, _, _, rfl, z5, hb⟩
  · have HL := Lib.hid ((fl_shr (X := X) o1 hi.2).trans hL)
    clear hL
    have o2 : ¬ i < 0 := by omega
    go_enter Tryz.func47, Tryz.ntmps47
    go_wp2_with fail
    have x_a : Bx (w.alloc (.cells #[.bool b, .slice A n c] 24)) (w.heap.size) b A n c := by have := Bx.new w b A n c; simpa using this
    replace x_a := x_a.alloc (.cells #[.bool false, .slice none 0 0] 24)
    have x_r : Bx ((w.alloc (.cells #[.bool b, .slice A n c] 24)).alloc (.cells #[.bool false, .slice none 0 0] 24)) (w.heap.size + 1) false none 0 0 := by have := Bx.new (w.alloc (.cells #[.bool b, .slice A n c] 24)) false none 0 0; simpa using this
    have hb : Below w.heap.size w ((w.alloc (.cells #[.bool b, .slice A n c] 24)).alloc (.cells #[.bool false, .slice none 0 0] 24)) := (Below.alloc (Below.alloc (Below.refl w.heap.size w) (by simp) (.cells #[.bool b, .slice A n c] 24)) (by simp) (.cells #[.bool false, .slice none 0 0] 24))
    generalize (w.alloc (.cells #[.bool b, .slice A n c] 24)).alloc (.cells #[.bool false, .slice none 0 0] 24) = v1 at *
    replace h := h.keep hb
    obtain ⟨q_a0, f_a0, q_a1, f_a1⟩ := x_a.al
    obtain ⟨q_r0, f_r0, q_r1, f_r1⟩ := x_r.al
    go_wp2_with fail
    with_reducible refine (RShrZ_any h i k hk hj).mono ?_
    rintro e v2 ⟨A5, n5, c5, rfl, z5, hb1⟩
    replace x_a := x_a.keep hb1
    replace x_r := x_r.keep hb1
    replace h := h.keep hb1
    replace hb := bthen hb hb1
    clear hb1
    clear q_a0 f_a0 q_a1 f_a1; obtain ⟨q_a0, f_a0, q_a1, f_a1⟩ := x_a.al
    clear q_r0 f_r0 q_r1 f_r1; obtain ⟨q_r0, f_r0, q_r1, f_r1⟩ := x_r.al
    rw [HL.out] at z5 ⊢
    go_wp2
    replace x_a := x_a.aside (b' := (ngB L)) (A' := A5) (n' := n5) (c' := c5) (g := w.heap.size + 1) (by omega)
    replace h := h.put (b' := (ngB L)) (A' := A5) (n' := n5) (c' := c5) x_r
    replace z5 := z5.put (b' := (ngB L)) (A' := A5) (n' := n5) (c' := c5) x_r
    replace hb := put_below (g := w.heap.size + 1) hb (by omega) (.bool (ngB L)) (.slice A5 n5 c5)
    replace x_r := x_r.put (ngB L) A5 n5 c5
    clear q_a0 f_a0 q_a1 f_a1 q_r0 f_r0 q_r1 f_r1
    generalize (v2.setCell ⟨w.heap.size + 1, 0, none⟩ (.bool (ngB L))).setCell ⟨w.heap.size + 1, 1, none⟩ (.slice A5 n5 c5) = v3 at *
    obtain ⟨q_a0, f_a0, q_a1, f_a1⟩ := x_a.al
    obtain ⟨q_r0, f_r0, q_r1, f_r1⟩ := x_r.al
    refine bodyPost_ret (v := .agg #[.bool (ngB L), .slice A5 n5 c5]) (by simp [results, Tryz.results47, go_sem, q_r0, q_r1]) rfl ?_
    exact ⟨_, _, _, rfl, z5, hb⟩

set_option maxRecDepth 100000 in
set_option maxHeartbeats 2000000 in
theorem ROver_any {b : Bool} {A : Option Addr} {n c : Nat} {X : Int} {j : Nat} {w : World} (h : Zr w b A n c X j) (i : Int) (hi : -8000 ≤ i ∧ i ≤ 8000) (k : Nat) (hk : j + 130 ≤ k) (hj : k ≤ 100000) :
    Calls Tryz.prog 48 #[.agg #[.bool b, .slice A n c], .int .i64 i] w (OutZ w (-flI (-X) (-i)) k) := by
  go_enter Tryz.func48, Tryz.ntmps48
  go_wp2_with fail
  have x_a : Bx (w.alloc (.cells #[.bool b, .slice A n c] 24)) (w.heap.size) b A n c := by have := Bx.new w b A n c; simpa using this
  replace x_a := x_a.alloc (.cells #[.bool false, .slice none 0 0] 24)
  have x_r : Bx ((w.alloc (.cells #[.bool b, .slice A n c] 24)).alloc (.cells #[.bool false, .slice none 0 0] 24)) (w.heap.size + 1) false none 0 0 := by have := Bx.new (w.alloc (.cells #[.bool b, .slice A n c] 24)) false none 0 0; simpa using this
  have hb : Below w.heap.size w ((w.alloc (.cells #[.bool b, .slice A n c] 24)).alloc (.cells #[.bool false, .slice none 0 0] 24)) := (Below.alloc (Below.alloc (Below.refl w.heap.size w) (by simp) (.cells #[.bool b, .slice A n c] 24)) (by simp) (.cells #[.bool false, .slice none 0 0] 24))
  generalize (w.alloc (.cells #[.bool b, .slice A n c] 24)).alloc (.cells #[.bool false, .slice none 0 0] 24) = v1 at *
  replace h := h.keep hb
  obtain ⟨q_a0, f_a0, q_a1, f_a1⟩ := x_a.al
  obtain ⟨q_r0, f_r0, q_r1, f_r1⟩ := x_r.al
  go_wp2_with fail
  with_reducible refine (RNegZ_any h j (Nat.le_refl _) (by omega)).mono ?_
  rintro e v2 ⟨A5, n5, c5, rfl, z5, hb1⟩
  replace x_a := x_a.keep hb1
  replace x_r := x_r.keep hb1
  replace h := h.keep hb1
  replace hb := bthen hb hb1
  clear hb1
  clear q_a0 f_a0 q_a1 f_a1; obtain ⟨q_a0, f_a0, q_a1, f_a1⟩ := x_a.al
  clear q_r0 f_r0 q_r1 f_r1; obtain ⟨q_r0, f_r0, q_r1, f_r1⟩ := x_r.al
  go_wp2_with fail
  with_reducible refine (RDown_any z5.zr i hi k hk hj).mono ?_
  rintro e v3 ⟨A6, n6, c6, rfl, z6, hb1⟩
  replace x_a := x_a.keep hb1
  replace x_r := x_r.keep hb1
  replace h := h.keep hb1
  replace z5 := z5.keep hb1
  replace hb := bthen hb hb1
  clear hb1
  clear q_a0 f_a0 q_a1 f_a1; obtain ⟨q_a0, f_a0, q_a1, f_a1⟩ := x_a.al
  clear q_r0 f_r0 q_r1 f_r1; obtain ⟨q_r0, f_r0, q_r1, f_r1⟩ := x_r.al
  go_wp2_with fail
  with_reducible refine (RNegZ_any z6.zr k (Nat.le_refl _) (by omega)).mono ?_
  rintro e v4 ⟨A7, n7, c7, rfl, z7, hb1⟩
  replace x_a := x_a.keep hb1
  replace x_r := x_r.keep hb1
  replace h := h.keep hb1
  replace z5 := z5.keep hb1
  replace z6 := z6.keep hb1
  replace hb := bthen hb hb1
  clear hb1
  clear q_a0 f_a0 q_a1 f_a1; obtain ⟨q_a0, f_a0, q_a1, f_a1⟩ := x_a.al
  clear q_r0 f_r0 q_r1 f_r1; obtain ⟨q_r0, f_r0, q_r1, f_r1⟩ := x_r.al
  go_wp2
  replace x_a := x_a.aside (b' := (ngB (-flI (-X) (-i)))) (A' := A7) (n' := n7) (c' := c7) (g := w.heap.size + 1) (by omega)
  replace h := h.put (b' := (ngB (-flI (-X) (-i)))) (A' := A7) (n' := n7) (c' := c7) x_r
  replace z5 := z5.put (b' := (ngB (-flI (-X) (-i)))) (A' := A7) (n' := n7) (c' := c7) x_r
  replace z6 := z6.put (b' := (ngB (-flI (-X) (-i)))) (A' := A7) (n' := n7) (c' := c7) x_r
  replace z7 := z7.put (b' := (ngB (-flI (-X) (-i)))) (A' := A7) (n' := n7) (c' := c7) x_r
  replace hb := put_below (g := w.heap.size + 1) hb (by omega) (.bool (ngB (-flI (-X) (-i)))) (.slice A7 n7 c7)
  replace x_r := x_r.put (ngB (-flI (-X) (-i))) A7 n7 c7
  clear q_a0 f_a0 q_a1 f_a1 q_r0 f_r0 q_r1 f_r1
  generalize (v4.setCell ⟨w.heap.size + 1, 0, none⟩ (.bool (ngB (-flI (-X) (-i))))).setCell ⟨w.heap.size + 1, 1, none⟩ (.slice A7 n7 c7) = v5 at *
  obtain ⟨q_a0, f_a0, q_a1, f_a1⟩ := x_a.al
  obtain ⟨q_r0, f_r0, q_r1, f_r1⟩ := x_r.al
  refine bodyPost_ret (v := .agg #[.bool (ngB (-flI (-X) (-i))), .slice A7 n7 c7]) (by simp [results, Tryz.results48, go_sem, q_r0, q_r1]) rfl ?_
  exact ⟨_, _, _, rfl, z7, hb⟩

set_option maxRecDepth 100000 in
set_option maxHeartbeats 2000000 in
theorem RRecast_yes {b b2 : Bool} {A A2 : Option Addr} {n c n2 c2 : Nat} {X Y q : Int} {j j2 : Nat} {w : World} (h : Zr w b A n c X j) (h2 : Zr w b2 A2 n2 c2 Y j2) (p : Int) (hv : 0 ≤ q ∧ q ≤ 2048 ∧ X ≤ Y) (hp : 0 ≤ p ∧ p ≤ 2048) (k : Nat) (hk : j + 130 ≤ k) (hk2 : j2 + 130 ≤ k) (hj : k ≤ 10000) :
    Calls Tryz.prog 14 #[.agg #[.bool b, .slice A n c, .bool b2, .slice A2 n2 c2, .int .i64 q], .int .i64 p] w (OuL w (flI X (-q + p)) (-flI (-Y) (-q + p)) p k) := by
  have HR := Lib.hid (rB_yes hv)
  have hq : 0 ≤ q ∧ q ≤ 2048 := ⟨hv.1, hv.2.1⟩
  clear hv
  rw [show -q + p = -(q - p) by omega]
  obtain ⟨L, hL⟩ : ∃ L, flI X (-(q - p)) = L := ⟨_, rfl⟩
  obtain ⟨H, hH⟩ : ∃ H, -flI (-Y) (-(q - p)) = H := ⟨_, rfl⟩
  rw [hL, hH]
  have HL := Lib.hid hL; have HH := Lib.hid hH; clear hL hH
  have o1 : ¬ p < 0 := by omega
  have o2 : ¬ 2048 < p := by omega
  have hwr : IntKind.i64.wrap (q - p) = q - p := wrap_in (by omega) (by omega)
  go_enter Tryz.func14, Tryz.ntmps14
  go_wp2_with fail
  have x_a : Lx (w.alloc (.cells #[.bool b, .slice A n c, .bool b2, .slice A2 n2 c2, .int .i64 q] 26)) (w.heap.size) b A n c b2 A2 n2 c2 q := by have := Lx.new w b A n c b2 A2 n2 c2 q; simpa using this
  replace x_a := x_a.alloc (.cells #[.bool false, .slice none 0 0, .bool false, .slice none 0 0, .int .i64 0] 26)
  have x_r : Lx ((w.alloc (.cells #[.bool b, .slice A n c, .bool b2, .slice A2 n2 c2, .int .i64 q] 26)).alloc (.cells #[.bool false, .slice none 0 0, .bool false, .slice none 0 0, .int .i64 0] 26)) (w.heap.size + 1) false none 0 0 false none 0 0 0 := by have := Lx.new (w.alloc (.cells #[.bool b, .slice A n c, .bool b2, .slice A2 n2 c2, .int .i64 q] 26)) false none 0 0 false none 0 0 0; simpa using this
  have hb : Below w.heap.size w ((w.alloc (.cells #[.bool b, .slice A n c, .bool b2, .slice A2 n2 c2, .int .i64 q] 26)).alloc (.cells #[.bool false, .slice none 0 0, .bool false, .slice none 0 0, .int .i64 0] 26)) := (Below.alloc (Below.alloc (Below.refl w.heap.size w) (by simp) (.cells #[.bool b, .slice A n c, .bool b2, .slice A2 n2 c2, .int .i64 q] 26)) (by simp) (.cells #[.bool false, .slice none 0 0, .bool false, .slice none 0 0, .int .i64 0] 26))
  generalize (w.alloc (.cells #[.bool b, .slice A n c, .bool b2, .slice A2 n2 c2, .int .i64 q] 26)).alloc (.cells #[.bool false, .slice none 0 0, .bool false, .slice none 0 0, .int .i64 0] 26) = v1 at *
  replace h := h.keep hb
  replace h2 := h2.keep hb
  obtain ⟨q_a0, f_a0, q_a1, f_a1, q_a2, f_a2, q_a3, f_a3, q_a4, f_a4⟩ := x_a.al
  obtain ⟨q_r0, f_r0, q_r1, f_r1, q_r2, f_r2, q_r3, f_r3, q_r4, f_r4⟩ := x_r.al
  go_wp2_with fail
  with_reducible refine (RRight_any h h2 (by omega) (by omega)).mono ?_
  rintro e v2 ⟨rfl, hb1⟩
  replace x_a := x_a.keep hb1
  replace x_r := x_r.keep hb1
  replace h := h.keep hb1
  replace h2 := h2.keep hb1
  replace hb := bthen hb hb1
  clear hb1
  clear q_a0 f_a0 q_a1 f_a1 q_a2 f_a2 q_a3 f_a3 q_a4 f_a4; obtain ⟨q_a0, f_a0, q_a1, f_a1, q_a2, f_a2, q_a3, f_a3, q_a4, f_a4⟩ := x_a.al
  clear q_r0 f_r0 q_r1 f_r1 q_r2 f_r2 q_r3 f_r3 q_r4 f_r4; obtain ⟨q_r0, f_r0, q_r1, f_r1, q_r2, f_r2, q_r3, f_r3, q_r4, f_r4⟩ := x_r.al
  rw [HR.out]
  go_wp2_with fail
  go_region_held3 (fun w' => w'.cell? ⟨w.heap.size, 0, none⟩ = some (.bool b) ∧ w'.cell? ⟨w.heap.size, 1, none⟩ = some (.slice A n c) ∧ w'.cell? ⟨w.heap.size, 2, none⟩ = some (.bool b2) ∧ w'.cell? ⟨w.heap.size, 3, none⟩ = some (.slice A2 n2 c2) ∧ w'.cell? ⟨w.heap.size, 4, none⟩ = some (.int .i64 q))
    (first | (with_reducible exact ⟨x_a.c0, x_a.c1, x_a.c2, x_a.c3, x_a.c4⟩) | (with_reducible exact ⟨(x_a.aside (by omega)).c0, (x_a.aside (by omega)).c1, (x_a.aside (by omega)).c2, (x_a.aside (by omega)).c3, (x_a.aside (by omega)).c4⟩) | (with_reducible exact ⟨((x_a.aside (by omega)).aside (by omega)).c0, ((x_a.aside (by omega)).aside (by omega)).c1, ((x_a.aside (by omega)).aside (by omega)).c2, ((x_a.aside (by omega)).aside (by omega)).c3, ((x_a.aside (by omega)).aside (by omega)).c4⟩) | (with_reducible exact ⟨(x_a.asideD (by omega)).c0, (x_a.asideD (by omega)).c1, (x_a.asideD (by omega)).c2, (x_a.asideD (by omega)).c3, (x_a.asideD (by omega)).c4⟩) | (with_reducible exact ⟨((x_a.asideD (by omega)).asideD (by omega)).c0, ((x_a.asideD (by omega)).asideD (by omega)).c1, ((x_a.asideD (by omega)).asideD (by omega)).c2, ((x_a.asideD (by omega)).asideD (by omega)).c3, ((x_a.asideD (by omega)).asideD (by omega)).c4⟩) | (with_reducible exact ⟨(x_a.asideL (by omega)).c0, (x_a.asideL (by omega)).c1, (x_a.asideL (by omega)).c2, (x_a.asideL (by omega)).c3, (x_a.asideL (by omega)).c4⟩) | (with_reducible exact ⟨((x_a.asideL (by omega)).asideL (by omega)).c0, ((x_a.asideL (by omega)).asideL (by omega)).c1, ((x_a.asideL (by omega)).asideL (by omega)).c2, ((x_a.asideL (by omega)).asideL (by omega)).c3, ((x_a.asideL (by omega)).asideL (by omega)).c4⟩) | go_keep)
    (first | (go_at_call 47; (with_reducible refine (RDown_any h.drw (q - p) (by omega) k hk (by omega)).mono ?_); rintro e v3 ⟨A5, n5, c5, rfl, z5, hb1⟩; replace hb1 := undrew hb1; replace x_a := x_a.keep hb1; replace x_r := x_r.keep hb1; replace h := h.keep hb1; replace h2 := h2.keep hb1; replace hb := bthen hb hb1; clear hb1; clear q_a0 f_a0 q_a1 f_a1 q_a2 f_a2 q_a3 f_a3 q_a4 f_a4; obtain ⟨q_a0, f_a0, q_a1, f_a1, q_a2, f_a2, q_a3, f_a3, q_a4, f_a4⟩ := x_a.al; clear q_r0 f_r0 q_r1 f_r1 q_r2 f_r2 q_r3 f_r3 q_r4 f_r4; obtain ⟨q_r0, f_r0, q_r1, f_r1, q_r2, f_r2, q_r3, f_r3, q_r4, f_r4⟩ := x_r.al; rw [HL.out] at z5 ⊢) | (go_at_call 48; (with_reducible refine (ROver_any h2 (q - p) (by omega) k hk2 (by omega)).mono ?_); rintro e v4 ⟨A6, n6, c6, rfl, z6, hb1⟩; replace x_a := x_a.keep hb1; replace x_r := x_r.keep hb1; replace h := h.keep hb1; replace h2 := h2.keep hb1; replace z5 := z5.keep hb1; replace hb := bthen hb hb1; clear hb1; clear q_a0 f_a0 q_a1 f_a1 q_a2 f_a2 q_a3 f_a3 q_a4 f_a4; obtain ⟨q_a0, f_a0, q_a1, f_a1, q_a2, f_a2, q_a3, f_a3, q_a4, f_a4⟩ := x_a.al; clear q_r0 f_r0 q_r1 f_r1 q_r2 f_r2 q_r3 f_r3 q_r4 f_r4; obtain ⟨q_r0, f_r0, q_r1, f_r1, q_r2, f_r2, q_r3, f_r3, q_r4, f_r4⟩ := x_r.al; rw [HH.out] at z6 ⊢))
  go_wp2
  replace x_a := x_a.asideL (b' := (ngB L)) (A' := A5) (n' := n5) (c' := c5) (p' := (ngB H)) (B' := A6) (m' := n6) (d' := c6) (e' := p) (g := w.heap.size + 1) (by omega)
  replace h := h.putL (b' := (ngB L)) (A' := A5) (n' := n5) (c' := c5) (p' := (ngB H)) (B' := A6) (m' := n6) (d' := c6) (e' := p) x_r
  replace h2 := h2.putL (b' := (ngB L)) (A' := A5) (n' := n5) (c' := c5) (p' := (ngB H)) (B' := A6) (m' := n6) (d' := c6) (e' := p) x_r
  replace z5 := z5.putL (b' := (ngB L)) (A' := A5) (n' := n5) (c' := c5) (p' := (ngB H)) (B' := A6) (m' := n6) (d' := c6) (e' := p) x_r
  replace z6 := z6.putL (b' := (ngB L)) (A' := A5) (n' := n5) (c' := c5) (p' := (ngB H)) (B' := A6) (m' := n6) (d' := c6) (e' := p) x_r
  replace hb := put_belowL (g := w.heap.size + 1) hb (by omega) (.bool (ngB L)) (.slice A5 n5 c5) (.bool (ngB H)) (.slice A6 n6 c6) (.int .i64 p)
  replace x_r := x_r.put (ngB L) A5 n5 c5 (ngB H) A6 n6 c6 p
  clear q_a0 f_a0 q_a1 f_a1 q_a2 f_a2 q_a3 f_a3 q_a4 f_a4 q_r0 f_r0 q_r1 f_r1 q_r2 f_r2 q_r3 f_r3 q_r4 f_r4
  generalize ((((v4.setCell ⟨w.heap.size + 1, 0, none⟩ (.bool (ngB L))).setCell ⟨w.heap.size + 1, 1, none⟩ (.slice A5 n5 c5)).setCell ⟨w.heap.size + 1, 2, none⟩ (.bool (ngB H))).setCell ⟨w.heap.size + 1, 3, none⟩ (.slice A6 n6 c6)).setCell ⟨w.heap.size + 1, 4, none⟩ (.int .i64 p) = v5 at *
  obtain ⟨q_a0, f_a0, q_a1, f_a1, q_a2, f_a2, q_a3, f_a3, q_a4, f_a4⟩ := x_a.al
  obtain ⟨q_r0, f_r0, q_r1, f_r1, q_r2, f_r2, q_r3, f_r3, q_r4, f_r4⟩ := x_r.al
  refine bodyPost_ret (v := .tuple #[.agg #[.bool (ngB L), .slice A5 n5 c5, .bool (ngB H), .slice A6 n6 c6, .int .i64 p], .int .i64 0]) (by simp [results, Tryz.results14, go_sem, q_r0, q_r1, q_r2, q_r3, q_r4]) rfl ?_
  exact ⟨_, _, _, _, _, _, rfl, z5, z6, hb⟩

set_option maxRecDepth 100000 in
set_option maxHeartbeats 4000000 in
theorem RRecast_no {b b2 : Bool} {A A2 : Option Addr} {n c n2 c2 : Nat} {X Y q : Int} {j j2 : Nat} {w : World} (h : Zr w b A n c X j) (h2 : Zr w b2 A2 n2 c2 Y j2) (p : Int) (hv : ¬ ((0 ≤ q ∧ q ≤ 2048 ∧ X ≤ Y) ∧ 0 ≤ p ∧ p ≤ 2048)) (hj : j ≤ 10000) (hj2 : j2 ≤ 10000) :
    Calls Tryz.prog 14 #[.agg #[.bool b, .slice A n c, .bool b2, .slice A2 n2 c2, .int .i64 q], .int .i64 p] w (ErrL w 1) := by
  by_cases hr : 0 ≤ q ∧ q ≤ 2048 ∧ X ≤ Y
  · have HR := Lib.hid (rB_yes hr)
    rcases (show p < 0 ∨ (¬ p < 0 ∧ 2048 < p) by omega) with o1 | ⟨o1, o2⟩ <;> clear hv hr
    · skip
      go_enter Tryz.func14, Tryz.ntmps14
      go_wp2_with fail
      have x_a : Lx (w.alloc (.cells #[.bool b, .slice A n c, .bool b2, .slice A2 n2 c2, .int .i64 q] 26)) (w.heap.size) b A n c b2 A2 n2 c2 q := by have := Lx.new w b A n c b2 A2 n2 c2 q; simpa using this
      replace x_a := x_a.alloc (.cells #[.bool false, .slice none 0 0, .bool false, .slice none 0 0, .int .i64 0] 26)
      have x_r : Lx ((w.alloc (.cells #[.bool b, .slice A n c, .bool b2, .slice A2 n2 c2, .int .i64 q] 26)).alloc (.cells #[.bool false, .slice none 0 0, .bool false, .slice none 0 0, .int .i64 0] 26)) (w.heap.size + 1) false none 0 0 false none 0 0 0 := by have := Lx.new (w.alloc (.cells #[.bool b, .slice A n c, .bool b2, .slice A2 n2 c2, .int .i64 q] 26)) false none 0 0 false none 0 0 0; simpa using this
      have hb : Below w.heap.size w ((w.alloc (.cells #[.bool b, .slice A n c, .bool b2, .slice A2 n2 c2, .int .i64 q] 26)).alloc (.cells #[.bool false, .slice none 0 0, .bool false, .slice none 0 0, .int .i64 0] 26)) := (Below.alloc (Below.alloc (Below.refl w.heap.size w) (by simp) (.cells #[.bool b, .slice A n c, .bool b2, .slice A2 n2 c2, .int .i64 q] 26)) (by simp) (.cells #[.bool false, .slice none 0 0, .bool false, .slice none 0 0, .int .i64 0] 26))
      generalize (w.alloc (.cells #[.bool b, .slice A n c, .bool b2, .slice A2 n2 c2, .int .i64 q] 26)).alloc (.cells #[.bool false, .slice none 0 0, .bool false, .slice none 0 0, .int .i64 0] 26) = v1 at *
      replace h := h.keep hb
      replace h2 := h2.keep hb
      obtain ⟨q_a0, f_a0, q_a1, f_a1, q_a2, f_a2, q_a3, f_a3, q_a4, f_a4⟩ := x_a.al
      obtain ⟨q_r0, f_r0, q_r1, f_r1, q_r2, f_r2, q_r3, f_r3, q_r4, f_r4⟩ := x_r.al
      go_wp2_with fail
      with_reducible refine (RRight_any h h2 (by omega) (by omega)).mono ?_
      rintro e v2 ⟨rfl, hb1⟩
      replace x_a := x_a.keep hb1
      replace x_r := x_r.keep hb1
      replace h := h.keep hb1
      replace h2 := h2.keep hb1
      replace hb := bthen hb hb1
      clear hb1
      clear q_a0 f_a0 q_a1 f_a1 q_a2 f_a2 q_a3 f_a3 q_a4 f_a4; obtain ⟨q_a0, f_a0, q_a1, f_a1, q_a2, f_a2, q_a3, f_a3, q_a4, f_a4⟩ := x_a.al
      clear q_r0 f_r0 q_r1 f_r1 q_r2 f_r2 q_r3 f_r3 q_r4 f_r4; obtain ⟨q_r0, f_r0, q_r1, f_r1, q_r2, f_r2, q_r3, f_r3, q_r4, f_r4⟩ := x_r.al
      rw [HR.out]
      go_wp2_with fail
      go_wp2
      replace x_a := x_a.asideL (b' := false) (A' := none) (n' := 0) (c' := 0) (p' := false) (B' := none) (m' := 0) (d' := 0) (e' := 0) (g := w.heap.size + 1) (by omega)
      replace h := h.putL (b' := false) (A' := none) (n' := 0) (c' := 0) (p' := false) (B' := none) (m' := 0) (d' := 0) (e' := 0) x_r
      replace h2 := h2.putL (b' := false) (A' := none) (n' := 0) (c' := 0) (p' := false) (B' := none) (m' := 0) (d' := 0) (e' := 0) x_r
      replace hb := put_belowL (g := w.heap.size + 1) hb (by omega) (.bool false) (.slice none 0 0) (.bool false) (.slice none 0 0) (.int .i64 0)
      replace x_r := x_r.put false none 0 0 false none 0 0 0
      clear q_a0 f_a0 q_a1 f_a1 q_a2 f_a2 q_a3 f_a3 q_a4 f_a4 q_r0 f_r0 q_r1 f_r1 q_r2 f_r2 q_r3 f_r3 q_r4 f_r4
      generalize ((((v2.setCell ⟨w.heap.size + 1, 0, none⟩ (.bool false)).setCell ⟨w.heap.size + 1, 1, none⟩ (.slice none 0 0)).setCell ⟨w.heap.size + 1, 2, none⟩ (.bool false)).setCell ⟨w.heap.size + 1, 3, none⟩ (.slice none 0 0)).setCell ⟨w.heap.size + 1, 4, none⟩ (.int .i64 0) = v3 at *
      obtain ⟨q_a0, f_a0, q_a1, f_a1, q_a2, f_a2, q_a3, f_a3, q_a4, f_a4⟩ := x_a.al
      obtain ⟨q_r0, f_r0, q_r1, f_r1, q_r2, f_r2, q_r3, f_r3, q_r4, f_r4⟩ := x_r.al
      refine bodyPost_ret (v := .tuple #[.agg #[.bool false, .slice none 0 0, .bool false, .slice none 0 0, .int .i64 0], .int .i64 1]) (by simp [results, Tryz.results14, go_sem, q_r0, q_r1, q_r2, q_r3, q_r4]) rfl ?_
      exact ⟨rfl, hb⟩
    · skip
      go_enter Tryz.func14, Tryz.ntmps14
      go_wp2_with fail
      have x_a : Lx (w.alloc (.cells #[.bool b, .slice A n c, .bool b2, .slice A2 n2 c2, .int .i64 q] 26)) (w.heap.size) b A n c b2 A2 n2 c2 q := by have := Lx.new w b A n c b2 A2 n2 c2 q; simpa using this
      replace x_a := x_a.alloc (.cells #[.bool false, .slice none 0 0, .bool false, .slice none 0 0, .int .i64 0] 26)
      have x_r : Lx ((w.alloc (.cells #[.bool b, .slice A n c, .bool b2, .slice A2 n2 c2, .int .i64 q] 26)).alloc (.cells #[.bool false, .slice none 0 0, .bool false, .slice none 0 0, .int .i64 0] 26)) (w.heap.size + 1) false none 0 0 false none 0 0 0 := by have := Lx.new (w.alloc (.cells #[.bool b, .slice A n c, .bool b2, .slice A2 n2 c2, .int .i64 q] 26)) false none 0 0 false none 0 0 0; simpa using this
      have hb : Below w.heap.size w ((w.alloc (.cells #[.bool b, .slice A n c, .bool b2, .slice A2 n2 c2, .int .i64 q] 26)).alloc (.cells #[.bool false, .slice none 0 0, .bool false, .slice none 0 0, .int .i64 0] 26)) := (Below.alloc (Below.alloc (Below.refl w.heap.size w) (by simp) (.cells #[.bool b, .slice A n c, .bool b2, .slice A2 n2 c2, .int .i64 q] 26)) (by simp) (.cells #[.bool false, .slice none 0 0, .bool false, .slice none 0 0, .int .i64 0] 26))
      generalize (w.alloc (.cells #[.bool b, .slice A n c, .bool b2, .slice A2 n2 c2, .int .i64 q] 26)).alloc (.cells #[.bool false, .slice none 0 0, .bool false, .slice none 0 0, .int .i64 0] 26) = v1 at *
      replace h := h.keep hb
      replace h2 := h2.keep hb
      obtain ⟨q_a0, f_a0, q_a1, f_a1, q_a2, f_a2, q_a3, f_a3, q_a4, f_a4⟩ := x_a.al
      obtain ⟨q_r0, f_r0, q_r1, f_r1, q_r2, f_r2, q_r3, f_r3, q_r4, f_r4⟩ := x_r.al
      go_wp2_with fail
      with_reducible refine (RRight_any h h2 (by omega) (by omega)).mono ?_
      rintro e v2 ⟨rfl, hb1⟩
      replace x_a := x_a.keep hb1
      replace x_r := x_r.keep hb1
      replace h := h.keep hb1
      replace h2 := h2.keep hb1
      replace hb := bthen hb hb1
      clear hb1
      clear q_a0 f_a0 q_a1 f_a1 q_a2 f_a2 q_a3 f_a3 q_a4 f_a4; obtain ⟨q_a0, f_a0, q_a1, f_a1, q_a2, f_a2, q_a3, f_a3, q_a4, f_a4⟩ := x_a.al
      clear q_r0 f_r0 q_r1 f_r1 q_r2 f_r2 q_r3 f_r3 q_r4 f_r4; obtain ⟨q_r0, f_r0, q_r1, f_r1, q_r2, f_r2, q_r3, f_r3, q_r4, f_r4⟩ := x_r.al
      rw [HR.out]
      go_wp2_with fail
      go_wp2
      replace x_a := x_a.asideL (b' := false) (A' := none) (n' := 0) (c' := 0) (p' := false) (B' := none) (m' := 0) (d' := 0) (e' := 0) (g := w.heap.size + 1) (by omega)
      replace h := h.putL (b' := false) (A' := none) (n' := 0) (c' := 0) (p' := false) (B' := none) (m' := 0) (d' := 0) (e' := 0) x_r
      replace h2 := h2.putL (b' := false) (A' := none) (n' := 0) (c' := 0) (p' := false) (B' := none) (m' := 0) (d' := 0) (e' := 0) x_r
      replace hb := put_belowL (g := w.heap.size + 1) hb (by omega) (.bool false) (.slice none 0 0) (.bool false) (.slice none 0 0) (.int .i64 0)
      replace x_r := x_r.put false none 0 0 false none 0 0 0
      clear q_a0 f_a0 q_a1 f_a1 q_a2 f_a2 q_a3 f_a3 q_a4 f_a4 q_r0 f_r0 q_r1 f_r1 q_r2 f_r2 q_r3 f_r3 q_r4 f_r4
      generalize ((((v2.setCell ⟨w.heap.size + 1, 0, none⟩ (.bool false)).setCell ⟨w.heap.size + 1, 1, none⟩ (.slice none 0 0)).setCell ⟨w.heap.size + 1, 2, none⟩ (.bool false)).setCell ⟨w.heap.size + 1, 3, none⟩ (.slice none 0 0)).setCell ⟨w.heap.size + 1, 4, none⟩ (.int .i64 0) = v3 at *
      obtain ⟨q_a0, f_a0, q_a1, f_a1, q_a2, f_a2, q_a3, f_a3, q_a4, f_a4⟩ := x_a.al
      obtain ⟨q_r0, f_r0, q_r1, f_r1, q_r2, f_r2, q_r3, f_r3, q_r4, f_r4⟩ := x_r.al
      refine bodyPost_ret (v := .tuple #[.agg #[.bool false, .slice none 0 0, .bool false, .slice none 0 0, .int .i64 0], .int .i64 1]) (by simp [results, Tryz.results14, go_sem, q_r0, q_r1, q_r2, q_r3, q_r4]) rfl ?_
      exact ⟨rfl, hb⟩
  · have HR := Lib.hid (rB_no hr)
    clear hv hr
    go_enter Tryz.func14, Tryz.ntmps14
    go_wp2_with fail
    have x_a : Lx (w.alloc (.cells #[.bool b, .slice A n c, .bool b2, .slice A2 n2 c2, .int .i64 q] 26)) (w.heap.size) b A n c b2 A2 n2 c2 q := by have := Lx.new w b A n c b2 A2 n2 c2 q; simpa using this
    replace x_a := x_a.alloc (.cells #[.bool false, .slice none 0 0, .bool false, .slice none 0 0, .int .i64 0] 26)
    have x_r : Lx ((w.alloc (.cells #[.bool b, .slice A n c, .bool b2, .slice A2 n2 c2, .int .i64 q] 26)).alloc (.cells #[.bool false, .slice none 0 0, .bool false, .slice none 0 0, .int .i64 0] 26)) (w.heap.size + 1) false none 0 0 false none 0 0 0 := by have := Lx.new (w.alloc (.cells #[.bool b, .slice A n c, .bool b2, .slice A2 n2 c2, .int .i64 q] 26)) false none 0 0 false none 0 0 0; simpa using this
    have hb : Below w.heap.size w ((w.alloc (.cells #[.bool b, .slice A n c, .bool b2, .slice A2 n2 c2, .int .i64 q] 26)).alloc (.cells #[.bool false, .slice none 0 0, .bool false, .slice none 0 0, .int .i64 0] 26)) := (Below.alloc (Below.alloc (Below.refl w.heap.size w) (by simp) (.cells #[.bool b, .slice A n c, .bool b2, .slice A2 n2 c2, .int .i64 q] 26)) (by simp) (.cells #[.bool false, .slice none 0 0, .bool false, .slice none 0 0, .int .i64 0] 26))
    generalize (w.alloc (.cells #[.bool b, .slice A n c, .bool b2, .slice A2 n2 c2, .int .i64 q] 26)).alloc (.cells #[.bool false, .slice none 0 0, .bool false, .slice none 0 0, .int .i64 0] 26) = v1 at *
    replace h := h.keep hb
    replace h2 := h2.keep hb
    obtain ⟨q_a0, f_a0, q_a1, f_a1, q_a2, f_a2, q_a3, f_a3, q_a4, f_a4⟩ := x_a.al
    obtain ⟨q_r0, f_r0, q_r1, f_r1, q_r2, f_r2, q_r3, f_r3, q_r4, f_r4⟩ := x_r.al
    go_wp2_with fail
    with_reducible refine (RRight_any h h2 (by omega) (by omega)).mono ?_
    rintro e v2 ⟨rfl, hb1⟩
    replace x_a := x_a.keep hb1
    replace x_r := x_r.keep hb1
    replace h := h.keep hb1
    replace h2 := h2.keep hb1
    replace hb := bthen hb hb1
    clear hb1
    clear q_a0 f_a0 q_a1 f_a1 q_a2 f_a2 q_a3 f_a3 q_a4 f_a4; obtain ⟨q_a0, f_a0, q_a1, f_a1, q_a2, f_a2, q_a3, f_a3, q_a4, f_a4⟩ := x_a.al
    clear q_r0 f_r0 q_r1 f_r1 q_r2 f_r2 q_r3 f_r3 q_r4 f_r4; obtain ⟨q_r0, f_r0, q_r1, f_r1, q_r2, f_r2, q_r3, f_r3, q_r4, f_r4⟩ := x_r.al
    rw [HR.out]
    go_wp2_with fail
    go_wp2
    replace x_a := x_a.asideL (b' := false) (A' := none) (n' := 0) (c' := 0) (p' := false) (B' := none) (m' := 0) (d' := 0) (e' := 0) (g := w.heap.size + 1) (by omega)
    replace h := h.putL (b' := false) (A' := none) (n' := 0) (c' := 0) (p' := false) (B' := none) (m' := 0) (d' := 0) (e' := 0) x_r
    replace h2 := h2.putL (b' := false) (A' := none) (n' := 0) (c' := 0) (p' := false) (B' := none) (m' := 0) (d' := 0) (e' := 0) x_r
    replace hb := put_belowL (g := w.heap.size + 1) hb (by omega) (.bool false) (.slice none 0 0) (.bool false) (.slice none 0 0) (.int .i64 0)
    replace x_r := x_r.put false none 0 0 false none 0 0 0
    clear q_a0 f_a0 q_a1 f_a1 q_a2 f_a2 q_a3 f_a3 q_a4 f_a4 q_r0 f_r0 q_r1 f_r1 q_r2 f_r2 q_r3 f_r3 q_r4 f_r4
    generalize ((((v2.setCell ⟨w.heap.size + 1, 0, none⟩ (.bool false)).setCell ⟨w.heap.size + 1, 1, none⟩ (.slice none 0 0)).setCell ⟨w.heap.size + 1, 2, none⟩ (.bool false)).setCell ⟨w.heap.size + 1, 3, none⟩ (.slice none 0 0)).setCell ⟨w.heap.size + 1, 4, none⟩ (.int .i64 0) = v3 at *
    obtain ⟨q_a0, f_a0, q_a1, f_a1, q_a2, f_a2, q_a3, f_a3, q_a4, f_a4⟩ := x_a.al
    obtain ⟨q_r0, f_r0, q_r1, f_r1, q_r2, f_r2, q_r3, f_r3, q_r4, f_r4⟩ := x_r.al
    refine bodyPost_ret (v := .tuple #[.agg #[.bool false, .slice none 0 0, .bool false, .slice none 0 0, .int .i64 0], .int .i64 1]) (by simp [results, Tryz.results14, go_sem, q_r0, q_r1, q_r2, q_r3, q_r4]) rfl ?_
    exact ⟨rfl, hb⟩

set_option maxRecDepth 100000 in
set_option maxHeartbeats 2000000 in
theorem LEqual_any {A A2 A3 A4 : Option Addr} {n c n2 c2 n3 c3 n4 c4 k k2 k3 k4 : Nat} {X Y q : Int} {w : World} (h : Zn w A n c X k) (h2 : Zn w A2 n2 c2 Y k2) (h3 : Zn w A3 n3 c3 X k3) (h4 : Zn w A4 n4 c4 Y k4) :
    Calls Tryz.prog 25 #[.agg #[.bool (ngB X), .slice A n c, .bool (ngB Y), .slice A2 n2 c2, .int .i64 q], .agg #[.bool (ngB X), .slice A3 n3 c3, .bool (ngB Y), .slice A4 n4 c4, .int .i64 q]] w fun e w' => e = .returned (.bool true) ∧ Below w.heap.size w w' := by
  go_enter Tryz.func25, Tryz.ntmps25
  go_wp2_with fail
  have x_a : Lx (w.alloc (.cells #[.bool (ngB X), .slice A n c, .bool (ngB Y), .slice A2 n2 c2, .int .i64 q] 26)) (w.heap.size) (ngB X) A n c (ngB Y) A2 n2 c2 q := by have := Lx.new w (ngB X) A n c (ngB Y) A2 n2 c2 q; simpa using this
  replace x_a := x_a.alloc (.cells #[.bool (ngB X), .slice A3 n3 c3, .bool (ngB Y), .slice A4 n4 c4, .int .i64 q] 26)
  have x_d : Lx ((w.alloc (.cells #[.bool (ngB X), .slice A n c, .bool (ngB Y), .slice A2 n2 c2, .int .i64 q] 26)).alloc (.cells #[.bool (ngB X), .slice A3 n3 c3, .bool (ngB Y), .slice A4 n4 c4, .int .i64 q] 26)) (w.heap.size + 1) (ngB X) A3 n3 c3 (ngB Y) A4 n4 c4 q := by have := Lx.new (w.alloc (.cells #[.bool (ngB X), .slice A n c, .bool (ngB Y), .slice A2 n2 c2, .int .i64 q] 26)) (ngB X) A3 n3 c3 (ngB Y) A4 n4 c4 q; simpa using this
  have hb : Below w.heap.size w ((w.alloc (.cells #[.bool (ngB X), .slice A n c, .bool (ngB Y), .slice A2 n2 c2, .int .i64 q] 26)).alloc (.cells #[.bool (ngB X), .slice A3 n3 c3, .bool (ngB Y), .slice A4 n4 c4, .int .i64 q] 26)) := (Below.alloc (Below.alloc (Below.refl w.heap.size w) (by simp) (.cells #[.bool (ngB X), .slice A n c, .bool (ngB Y), .slice A2 n2 c2, .int .i64 q] 26)) (by simp) (.cells #[.bool (ngB X), .slice A3 n3 c3, .bool (ngB Y), .slice A4 n4 c4, .int .i64 q] 26))
  generalize (w.alloc (.cells #[.bool (ngB X), .slice A n c, .bool (ngB Y), .slice A2 n2 c2, .int .i64 q] 26)).alloc (.cells #[.bool (ngB X), .slice A3 n3 c3, .bool (ngB Y), .slice A4 n4 c4, .int .i64 q] 26) = v1 at *
  replace h := h.keep hb
  replace h2 := h2.keep hb
  replace h3 := h3.keep hb
  replace h4 := h4.keep hb
  obtain ⟨q_a0, f_a0, q_a1, f_a1, q_a2, f_a2, q_a3, f_a3, q_a4, f_a4⟩ := x_a.al
  obtain ⟨q_d0, f_d0, q_d1, f_d1, q_d2, f_d2, q_d3, f_d3, q_d4, f_d4⟩ := x_d.al
  go_wp2_with fail
  with_reducible refine (REqual_any h h3).mono ?_
  rintro e v2 ⟨rfl, hb1⟩
  replace x_a := x_a.keep hb1
  replace x_d := x_d.keep hb1
  replace h := h.keep hb1
  replace h2 := h2.keep hb1
  replace h3 := h3.keep hb1
  replace h4 := h4.keep hb1
  replace hb := bthen hb hb1
  clear hb1
  clear q_a0 f_a0 q_a1 f_a1 q_a2 f_a2 q_a3 f_a3 q_a4 f_a4; obtain ⟨q_a0, f_a0, q_a1, f_a1, q_a2, f_a2, q_a3, f_a3, q_a4, f_a4⟩ := x_a.al
  clear q_d0 f_d0 q_d1 f_d1 q_d2 f_d2 q_d3 f_d3 q_d4 f_d4; obtain ⟨q_d0, f_d0, q_d1, f_d1, q_d2, f_d2, q_d3, f_d3, q_d4, f_d4⟩ := x_d.al
  go_wp2_with fail
  with_reducible refine (REqual_any h2 h4).mono ?_
  rintro e v3 ⟨rfl, hb1⟩
  replace x_a := x_a.keep hb1
  replace x_d := x_d.keep hb1
  replace h := h.keep hb1
  replace h2 := h2.keep hb1
  replace h3 := h3.keep hb1
  replace h4 := h4.keep hb1
  replace hb := bthen hb hb1
  clear hb1
  clear q_a0 f_a0 q_a1 f_a1 q_a2 f_a2 q_a3 f_a3 q_a4 f_a4; obtain ⟨q_a0, f_a0, q_a1, f_a1, q_a2, f_a2, q_a3, f_a3, q_a4, f_a4⟩ := x_a.al
  clear q_d0 f_d0 q_d1 f_d1 q_d2 f_d2 q_d3 f_d3 q_d4 f_d4; obtain ⟨q_d0, f_d0, q_d1, f_d1, q_d2, f_d2, q_d3, f_d3, q_d4, f_d4⟩ := x_d.al
  go_wp2
  go_ret
  first | exact ⟨rfl, hb⟩ | exact ⟨by simp, hb⟩

set_option maxRecDepth 100000 in
set_option maxHeartbeats 2000000 in
theorem Leq_any {A A2 A3 A4 : Option Addr} {n c n2 c2 n3 c3 n4 c4 k k2 k3 k4 : Nat} {X Y q x : Int} {w : World} (h : Zn w A n c X k) (h2 : Zn w A2 n2 c2 Y k2) (h3 : Zn w A3 n3 c3 X k3) (h4 : Zn w A4 n4 c4 Y k4) :
    Calls Tryz.prog 12 #[.agg #[.bool (ngB X), .slice A n c, .bool (ngB Y), .slice A2 n2 c2, .int .i64 q], .int .i64 x, .agg #[.bool (ngB X), .slice A3 n3 c3, .bool (ngB Y), .slice A4 n4 c4, .int .i64 q], .int .i64 x] w fun e w' => e = .returned (.bool true) ∧ Below w.heap.size w w' := by
  go_enter Tryz.func12, Tryz.ntmps12
  go_wp2_with fail
  have x_a : Lx (w.alloc (.cells #[.bool (ngB X), .slice A n c, .bool (ngB Y), .slice A2 n2 c2, .int .i64 q] 26)) (w.heap.size) (ngB X) A n c (ngB Y) A2 n2 c2 q := by have := Lx.new w (ngB X) A n c (ngB Y) A2 n2 c2 q; simpa using this
  replace x_a := x_a.alloc (.cells #[.bool (ngB X), .slice A3 n3 c3, .bool (ngB Y), .slice A4 n4 c4, .int .i64 q] 26)
  have x_d : Lx ((w.alloc (.cells #[.bool (ngB X), .slice A n c, .bool (ngB Y), .slice A2 n2 c2, .int .i64 q] 26)).alloc (.cells #[.bool (ngB X), .slice A3 n3 c3, .bool (ngB Y), .slice A4 n4 c4, .int .i64 q] 26)) (w.heap.size + 1) (ngB X) A3 n3 c3 (ngB Y) A4 n4 c4 q := by have := Lx.new (w.alloc (.cells #[.bool (ngB X), .slice A n c, .bool (ngB Y), .slice A2 n2 c2, .int .i64 q] 26)) (ngB X) A3 n3 c3 (ngB Y) A4 n4 c4 q; simpa using this
  have hb : Below w.heap.size w ((w.alloc (.cells #[.bool (ngB X), .slice A n c, .bool (ngB Y), .slice A2 n2 c2, .int .i64 q] 26)).alloc (.cells #[.bool (ngB X), .slice A3 n3 c3, .bool (ngB Y), .slice A4 n4 c4, .int .i64 q] 26)) := (Below.alloc (Below.alloc (Below.refl w.heap.size w) (by simp) (.cells #[.bool (ngB X), .slice A n c, .bool (ngB Y), .slice A2 n2 c2, .int .i64 q] 26)) (by simp) (.cells #[.bool (ngB X), .slice A3 n3 c3, .bool (ngB Y), .slice A4 n4 c4, .int .i64 q] 26))
  generalize (w.alloc (.cells #[.bool (ngB X), .slice A n c, .bool (ngB Y), .slice A2 n2 c2, .int .i64 q] 26)).alloc (.cells #[.bool (ngB X), .slice A3 n3 c3, .bool (ngB Y), .slice A4 n4 c4, .int .i64 q] 26) = v1 at *
  replace h := h.keep hb
  replace h2 := h2.keep hb
  replace h3 := h3.keep hb
  replace h4 := h4.keep hb
  obtain ⟨q_a0, f_a0, q_a1, f_a1, q_a2, f_a2, q_a3, f_a3, q_a4, f_a4⟩ := x_a.al
  obtain ⟨q_d0, f_d0, q_d1, f_d1, q_d2, f_d2, q_d3, f_d3, q_d4, f_d4⟩ := x_d.al
  go_wp2_with fail
  with_reducible refine (LEqual_any h h2 h3 h4).mono ?_
  rintro e v2 ⟨rfl, hb1⟩
  replace x_a := x_a.keep hb1
  replace x_d := x_d.keep hb1
  replace h := h.keep hb1
  replace h2 := h2.keep hb1
  replace h3 := h3.keep hb1
  replace h4 := h4.keep hb1
  replace hb := bthen hb hb1
  clear hb1
  clear q_a0 f_a0 q_a1 f_a1 q_a2 f_a2 q_a3 f_a3 q_a4 f_a4; obtain ⟨q_a0, f_a0, q_a1, f_a1, q_a2, f_a2, q_a3, f_a3, q_a4, f_a4⟩ := x_a.al
  clear q_d0 f_d0 q_d1 f_d1 q_d2 f_d2 q_d3 f_d3 q_d4 f_d4; obtain ⟨q_d0, f_d0, q_d1, f_d1, q_d2, f_d2, q_d3, f_d3, q_d4, f_d4⟩ := x_d.al
  go_wp2
  go_ret
  first | exact ⟨rfl, hb⟩ | exact ⟨by simp, hb⟩

end Go.Proofs.YtiigacddjihokaaGreatDoor
