/-
 ball: Point, Recast, scale.
-/
import Derived.Test.YtiigacddjihokaaGreatDoorLfun
import Derived.Test.YtiigacddjihokaaGreatDoorLnum
namespace Go.Proofs.YtiigacddjihokaaGreatDoor
open Go.RowKit
set_option linter.unusedVariables false

theorem li_q {q : Int} (h : -4000 ≤ q ∧ q ≤ 4000) : li q = q := by unfold li; omega
theorem Floor_q {b : Bool} {A : Option Addr} {n c : Nat} {X e : Int} {j : Nat} {w : World} (h : Zr w b A n c X j) (q : Int) (hq : -4000 ≤ q ∧ q ≤ 4000) (k : Nat) (hk : j + 128 ≤ k) (hj : k ≤ 1000000) :
  Calls Tryz.prog 41 #[.agg #[.bool b, .slice A n c, .int .i64 e], .int .i64 q] w (OutZ w (flI (cM X e) (cE e + q)) k) := by
 have := DFloor_any (e := e) h q k hk hj
 rw [li_q hq] at this
 exact this
theorem Ceil_q {b : Bool} {A : Option Addr} {n c : Nat} {X e : Int} {j : Nat} {w : World} (h : Zr w b A n c X j) (q : Int) (hq : -4000 ≤ q ∧ q ≤ 4000) (k : Nat) (hk : j + 128 ≤ k) (hj : k ≤ 1000000) :
  Calls Tryz.prog 42 #[.agg #[.bool b, .slice A n c, .int .i64 e], .int .i64 q] w (OutZ w (-flI (-cM X e) (cE e + q)) k) := by
 have := DCeil_any (e := e) h q k hk hj
 rw [li_q hq] at this
 exact this
theorem Floor_at {b : Bool} {A : Option Addr} {n c : Nat} {X e : Int} {j : Nat} {w : World} (h : Zr w b A n c X j) (q : Int) (he : -4000 ≤ e ∧ e ≤ 4000) (hq : -4000 ≤ q ∧ q ≤ 4000) (k : Nat) (hk : j + 128 ≤ k) (hj : k ≤ 1000000) :
  Calls Tryz.prog 41 #[.agg #[.bool b, .slice A n c, .int .i64 e], .int .i64 q] w (OutZ w (flI X (e + q)) k) := by
 have := Floor_q (e := e) h q hq k hk hj
 rw [(c_yes (X := X) he).1, (c_yes (X := X) he).2] at this
 exact this
theorem Ceil_at {b : Bool} {A : Option Addr} {n c : Nat} {X e : Int} {j : Nat} {w : World} (h : Zr w b A n c X j) (q : Int) (he : -4000 ≤ e ∧ e ≤ 4000) (hq : -4000 ≤ q ∧ q ≤ 4000) (k : Nat) (hk : j + 128 ≤ k) (hj : k ≤ 1000000) :
  Calls Tryz.prog 42 #[.agg #[.bool b, .slice A n c, .int .i64 e], .int .i64 q] w (OutZ w (-flI (-X) (e + q)) k) := by
 have := Ceil_q (e := e) h q hq k hk hj
 rw [(c_yes (X := X) he).1, (c_yes (X := X) he).2] at this
 exact this
/-- Two integers handed back. -/
def Out2Z (w : World) (X Y : Int) (k : Nat) (e : Ending) (w' : World) : Prop := ∃ A n c A2 n2 c2, e = .returned (.tuple #[.agg #[.bool (ngB X), .slice A n c], .agg #[.bool (ngB Y), .slice A2 n2 c2]]) ∧ Zn w' A n c X k ∧ Zn w' A2 n2 c2 Y k ∧ Below w.heap.size w w'

set_option maxRecDepth 100000 in
set_option maxHeartbeats 2000000 in
theorem Point_yes {b : Bool} {A : Option Addr} {n c : Nat} {X e : Int} {j : Nat} {w : World} (h : Zr w b A n c X j) (q : Int) (hq : 0 ≤ q ∧ q ≤ 2048) (k : Nat) (hk : j + 128 ≤ k) (hj : k ≤ 1000000) :
  Calls Tryz.prog 10 #[.agg #[.bool b, .slice A n c, .int .i64 e], .int .i64 q] w (OuL w (flI (cM X e) (cE e + q)) (-flI (-cM X e) (cE e + q)) q k) := by
 have HQ := Lib.hid (qB_yes hq)
 obtain ⟨L, hL⟩ : ∃ L, flI (cM X e) (cE e + q) = L := ⟨_, rfl⟩
 obtain ⟨H, hH⟩ : ∃ H, -flI (-cM X e) (cE e + q) = H := ⟨_, rfl⟩
 rw [hL, hH]
 have HL := Lib.hid hL; have HH := Lib.hid hH; clear hL hH
 go_enter Tryz.func10, Tryz.ntmps10
 go_wp2_with fail
 have x_d : Dx (w.alloc (.cells #[.bool b, .slice A n c, .int .i64 e] 28)) (w.heap.size) b A n c e := by have := Dx.new w b A n c e; simpa using this
 replace x_d := x_d.alloc (.cells #[.bool false, .slice none 0 0, .bool false, .slice none 0 0, .int .i64 0] 26)
 have x_r : Lx ((w.alloc (.cells #[.bool b, .slice A n c, .int .i64 e] 28)).alloc (.cells #[.bool false, .slice none 0 0, .bool false, .slice none 0 0, .int .i64 0] 26)) (w.heap.size + 1) false none 0 0 false none 0 0 0 := by have := Lx.new (w.alloc (.cells #[.bool b, .slice A n c, .int .i64 e] 28)) false none 0 0 false none 0 0 0; simpa using this
 have hb : Below w.heap.size w ((w.alloc (.cells #[.bool b, .slice A n c, .int .i64 e] 28)).alloc (.cells #[.bool false, .slice none 0 0, .bool false, .slice none 0 0, .int .i64 0] 26)) := (Below.alloc (Below.alloc (Below.refl w.heap.size w) (by simp) (.cells #[.bool b, .slice A n c, .int .i64 e] 28)) (by simp) (.cells #[.bool false, .slice none 0 0, .bool false, .slice none 0 0, .int .i64 0] 26))
 generalize (w.alloc (.cells #[.bool b, .slice A n c, .int .i64 e] 28)).alloc (.cells #[.bool false, .slice none 0 0, .bool false, .slice none 0 0, .int .i64 0] 26) = v1 at *
 replace h := h.keep hb
 have q_d0 := x_d.c0; have f_d0 := x_d.fr 0; have q_d1 := x_d.c1; have f_d1 := x_d.fr 1; have q_d2 := x_d.c2; have f_d2 := x_d.fr 2
 have q_r0 := x_r.c0; have f_r0 := x_r.fr 0; have q_r1 := x_r.c1; have f_r1 := x_r.fr 1; have q_r2 := x_r.c2; have f_r2 := x_r.fr 2; have q_r3 := x_r.c3; have f_r3 := x_r.fr 3; have q_r4 := x_r.c4; have f_r4 := x_r.fr 4
 go_wp2_with fail
 with_reducible refine (rightQ_any q).mono ?_
 rintro e v2 ⟨rfl, hb1⟩
 replace x_d := x_d.keep hb1
 replace x_r := x_r.keep hb1
 replace h := h.keep hb1
 replace hb := bthen hb hb1
 clear hb1
 replace q_d0 := x_d.c0; replace f_d0 := x_d.fr 0; replace q_d1 := x_d.c1; replace f_d1 := x_d.fr 1; replace q_d2 := x_d.c2; replace f_d2 := x_d.fr 2
 replace q_r0 := x_r.c0; replace f_r0 := x_r.fr 0; replace q_r1 := x_r.c1; replace f_r1 := x_r.fr 1; replace q_r2 := x_r.c2; replace f_r2 := x_r.fr 2; replace q_r3 := x_r.c3; replace f_r3 := x_r.fr 3; replace q_r4 := x_r.c4; replace f_r4 := x_r.fr 4
 rw [HQ.out]
 go_wp2_with fail
 go_region_held3 (fun w' => w'.cell? ⟨w.heap.size, 0, none⟩ = some (.bool b) ∧ w'.cell? ⟨w.heap.size, 1, none⟩ = some (.slice A n c) ∧ w'.cell? ⟨w.heap.size, 2, none⟩ = some (.int .i64 e))
  (first | (with_reducible exact ⟨x_d.c0, x_d.c1, x_d.c2⟩) | (with_reducible exact ⟨(x_d.aside (by omega)).c0, (x_d.aside (by omega)).c1, (x_d.aside (by omega)).c2⟩) | (with_reducible exact ⟨((x_d.aside (by omega)).aside (by omega)).c0, ((x_d.aside (by omega)).aside (by omega)).c1, ((x_d.aside (by omega)).aside (by omega)).c2⟩) | (with_reducible exact ⟨(x_d.asideD (by omega)).c0, (x_d.asideD (by omega)).c1, (x_d.asideD (by omega)).c2⟩) | (with_reducible exact ⟨((x_d.asideD (by omega)).asideD (by omega)).c0, ((x_d.asideD (by omega)).asideD (by omega)).c1, ((x_d.asideD (by omega)).asideD (by omega)).c2⟩) | (with_reducible exact ⟨(x_d.asideL (by omega)).c0, (x_d.asideL (by omega)).c1, (x_d.asideL (by omega)).c2⟩) | (with_reducible exact ⟨((x_d.asideL (by omega)).asideL (by omega)).c0, ((x_d.asideL (by omega)).asideL (by omega)).c1, ((x_d.asideL (by omega)).asideL (by omega)).c2⟩) | go_keep)
  (first | (go_at_call 41; (with_reducible refine (Floor_q h.drw q (by omega) k hk hj).mono ?_); rintro e v3 ⟨A5, n5, c5, rfl, z5, hb1⟩; replace hb1 := undrew hb1; replace x_d := x_d.keep hb1; replace x_r := x_r.keep hb1; replace h := h.keep hb1; replace hb := bthen hb hb1; clear hb1; replace q_d0 := x_d.c0; replace f_d0 := x_d.fr 0; replace q_d1 := x_d.c1; replace f_d1 := x_d.fr 1; replace q_d2 := x_d.c2; replace f_d2 := x_d.fr 2; replace q_r0 := x_r.c0; replace f_r0 := x_r.fr 0; replace q_r1 := x_r.c1; replace f_r1 := x_r.fr 1; replace q_r2 := x_r.c2; replace f_r2 := x_r.fr 2; replace q_r3 := x_r.c3; replace f_r3 := x_r.fr 3; replace q_r4 := x_r.c4; replace f_r4 := x_r.fr 4; rw [HL.out] at z5 ⊢) | (go_at_call 42; (with_reducible refine (Ceil_q h q (by omega) k hk hj).mono ?_); rintro e v4 ⟨A6, n6, c6, rfl, z6, hb1⟩; replace x_d := x_d.keep hb1; replace x_r := x_r.keep hb1; replace h := h.keep hb1; replace z5 := z5.keep hb1; replace hb := bthen hb hb1; clear hb1; replace q_d0 := x_d.c0; replace f_d0 := x_d.fr 0; replace q_d1 := x_d.c1; replace f_d1 := x_d.fr 1; replace q_d2 := x_d.c2; replace f_d2 := x_d.fr 2; replace q_r0 := x_r.c0; replace f_r0 := x_r.fr 0; replace q_r1 := x_r.c1; replace f_r1 := x_r.fr 1; replace q_r2 := x_r.c2; replace f_r2 := x_r.fr 2; replace q_r3 := x_r.c3; replace f_r3 := x_r.fr 3; replace q_r4 := x_r.c4; replace f_r4 := x_r.fr 4; rw [HH.out] at z6 ⊢))
 go_wp2
 replace x_d := x_d.asideL (b' := (ngB L)) (A' := A5) (n' := n5) (c' := c5) (p' := (ngB H)) (B' := A6) (m' := n6) (d' := c6) (e' := q) (g := w.heap.size + 1) (by omega)
 replace h := h.putL (b' := (ngB L)) (A' := A5) (n' := n5) (c' := c5) (p' := (ngB H)) (B' := A6) (m' := n6) (d' := c6) (e' := q) x_r
 replace z5 := z5.putL (b' := (ngB L)) (A' := A5) (n' := n5) (c' := c5) (p' := (ngB H)) (B' := A6) (m' := n6) (d' := c6) (e' := q) x_r
 replace z6 := z6.putL (b' := (ngB L)) (A' := A5) (n' := n5) (c' := c5) (p' := (ngB H)) (B' := A6) (m' := n6) (d' := c6) (e' := q) x_r
 replace hb := put_belowL (g := w.heap.size + 1) hb (by omega) (.bool (ngB L)) (.slice A5 n5 c5) (.bool (ngB H)) (.slice A6 n6 c6) (.int .i64 q)
 replace x_r := x_r.put (ngB L) A5 n5 c5 (ngB H) A6 n6 c6 q
 clear q_d0 f_d0 q_d1 f_d1 q_d2 f_d2 q_r0 f_r0 q_r1 f_r1 q_r2 f_r2 q_r3 f_r3 q_r4 f_r4
 generalize ((((v4.setCell ⟨w.heap.size + 1, 0, none⟩ (.bool (ngB L))).setCell ⟨w.heap.size + 1, 1, none⟩ (.slice A5 n5 c5)).setCell ⟨w.heap.size + 1, 2, none⟩ (.bool (ngB H))).setCell ⟨w.heap.size + 1, 3, none⟩ (.slice A6 n6 c6)).setCell ⟨w.heap.size + 1, 4, none⟩ (.int .i64 q) = v5 at *
 have q_d0 := x_d.c0; have f_d0 := x_d.fr 0; have q_d1 := x_d.c1; have f_d1 := x_d.fr 1; have q_d2 := x_d.c2; have f_d2 := x_d.fr 2
 have q_r0 := x_r.c0; have f_r0 := x_r.fr 0; have q_r1 := x_r.c1; have f_r1 := x_r.fr 1; have q_r2 := x_r.c2; have f_r2 := x_r.fr 2; have q_r3 := x_r.c3; have f_r3 := x_r.fr 3; have q_r4 := x_r.c4; have f_r4 := x_r.fr 4
 refine bodyPost_ret (v := .tuple #[.agg #[.bool (ngB L), .slice A5 n5 c5, .bool (ngB H), .slice A6 n6 c6, .int .i64 q], .int .i64 0]) (by simp [results, Tryz.results10, go_sem, q_r0, q_r1, q_r2, q_r3, q_r4]) rfl ?_
 exact ⟨_, _, _, _, _, _, rfl, z5, z6, hb⟩

set_option maxRecDepth 100000 in
set_option maxHeartbeats 2000000 in
theorem scale_any {b : Bool} {A : Option Addr} {n c : Nat} {X : Int} {j : Nat} {w : World} (h : Zr w b A n c X j) (e : Int) (he : -4000 ≤ e ∧ e ≤ 4000) (k : Nat) (hk : j + 128 ≤ k) (hj : k ≤ 1000000) :
  Calls Tryz.prog 60 #[.agg #[.bool b, .slice A n c], .int .i64 e] w (Out2Z w (flI X e) (-flI (-X) e) k) := by
 obtain ⟨L, hL⟩ : ∃ L, flI X e = L := ⟨_, rfl⟩
 obtain ⟨H, hH⟩ : ∃ H, -flI (-X) e = H := ⟨_, rfl⟩
 have he0 : e + 0 = e := Int.add_zero e
 rw [hL, hH]
 have HL := Lib.hid hL; have HH := Lib.hid hH; have HE := Lib.hid he0; clear hL hH he0
 go_enter Tryz.func60, Tryz.ntmps60
 go_wp2_with fail
 have x_m : Bx (w.alloc (.cells #[.bool b, .slice A n c] 24)) (w.heap.size) b A n c := by have := Bx.new w b A n c; simpa using this
 replace x_m := x_m.alloc (.cells #[.bool false, .slice none 0 0] 24)
 have x_x : Bx ((w.alloc (.cells #[.bool b, .slice A n c] 24)).alloc (.cells #[.bool false, .slice none 0 0] 24)) (w.heap.size + 1) false none 0 0 := by have := Bx.new (w.alloc (.cells #[.bool b, .slice A n c] 24)) false none 0 0; simpa using this
 replace x_m := x_m.alloc (.cells #[.bool false, .slice none 0 0] 24)
 replace x_x := x_x.alloc (.cells #[.bool false, .slice none 0 0] 24)
 have x_y : Bx (((w.alloc (.cells #[.bool b, .slice A n c] 24)).alloc (.cells #[.bool false, .slice none 0 0] 24)).alloc (.cells #[.bool false, .slice none 0 0] 24)) (w.heap.size + 1 + 1) false none 0 0 := by have := Bx.new ((w.alloc (.cells #[.bool b, .slice A n c] 24)).alloc (.cells #[.bool false, .slice none 0 0] 24)) false none 0 0; simpa using this
 replace x_m := x_m.alloc (.cells #[.bool b, .slice A n c, .int .i64 e] 28)
 replace x_x := x_x.alloc (.cells #[.bool b, .slice A n c, .int .i64 e] 28)
 replace x_y := x_y.alloc (.cells #[.bool b, .slice A n c, .int .i64 e] 28)
 have x_d : Dx ((((w.alloc (.cells #[.bool b, .slice A n c] 24)).alloc (.cells #[.bool false, .slice none 0 0] 24)).alloc (.cells #[.bool false, .slice none 0 0] 24)).alloc (.cells #[.bool b, .slice A n c, .int .i64 e] 28)) (w.heap.size + 1 + 1 + 1) b A n c e := by have := Dx.new (((w.alloc (.cells #[.bool b, .slice A n c] 24)).alloc (.cells #[.bool false, .slice none 0 0] 24)).alloc (.cells #[.bool false, .slice none 0 0] 24)) b A n c e; simpa using this
 have hb : Below w.heap.size w ((((w.alloc (.cells #[.bool b, .slice A n c] 24)).alloc (.cells #[.bool false, .slice none 0 0] 24)).alloc (.cells #[.bool false, .slice none 0 0] 24)).alloc (.cells #[.bool b, .slice A n c, .int .i64 e] 28)) := (Below.alloc (Below.alloc (Below.alloc (Below.alloc (Below.refl w.heap.size w) (by simp) (.cells #[.bool b, .slice A n c] 24)) (by simp) (.cells #[.bool false, .slice none 0 0] 24)) (by simp; omega) (.cells #[.bool false, .slice none 0 0] 24)) (by simp; omega) (.cells #[.bool b, .slice A n c, .int .i64 e] 28))
 generalize (((w.alloc (.cells #[.bool b, .slice A n c] 24)).alloc (.cells #[.bool false, .slice none 0 0] 24)).alloc (.cells #[.bool false, .slice none 0 0] 24)).alloc (.cells #[.bool b, .slice A n c, .int .i64 e] 28) = v1 at *
 replace h := h.keep hb
 obtain ⟨q_m0, f_m0, q_m1, f_m1⟩ := x_m.al
 obtain ⟨q_x0, f_x0, q_x1, f_x1⟩ := x_x.al
 obtain ⟨q_y0, f_y0, q_y1, f_y1⟩ := x_y.al
 have q_d0 := x_d.c0; have f_d0 := x_d.fr 0; have q_d1 := x_d.c1; have f_d1 := x_d.fr 1; have q_d2 := x_d.c2; have f_d2 := x_d.fr 2
 go_region_held3 (fun w' => w'.cell? ⟨w.heap.size + 1 + 1 + 1, 0, none⟩ = some (.bool b) ∧ w'.cell? ⟨w.heap.size + 1 + 1 + 1, 1, none⟩ = some (.slice A n c) ∧ w'.cell? ⟨w.heap.size + 1 + 1 + 1, 2, none⟩ = some (.int .i64 e))
  (first | (with_reducible exact ⟨x_d.c0, x_d.c1, x_d.c2⟩) | (with_reducible exact ⟨(x_d.aside (by omega)).c0, (x_d.aside (by omega)).c1, (x_d.aside (by omega)).c2⟩) | (with_reducible exact ⟨((x_d.aside (by omega)).aside (by omega)).c0, ((x_d.aside (by omega)).aside (by omega)).c1, ((x_d.aside (by omega)).aside (by omega)).c2⟩) | (with_reducible exact ⟨(x_d.asideD (by omega)).c0, (x_d.asideD (by omega)).c1, (x_d.asideD (by omega)).c2⟩) | (with_reducible exact ⟨((x_d.asideD (by omega)).asideD (by omega)).c0, ((x_d.asideD (by omega)).asideD (by omega)).c1, ((x_d.asideD (by omega)).asideD (by omega)).c2⟩) | (with_reducible exact ⟨(x_d.asideL (by omega)).c0, (x_d.asideL (by omega)).c1, (x_d.asideL (by omega)).c2⟩) | (with_reducible exact ⟨((x_d.asideL (by omega)).asideL (by omega)).c0, ((x_d.asideL (by omega)).asideL (by omega)).c1, ((x_d.asideL (by omega)).asideL (by omega)).c2⟩) | go_keep)
  (first | (go_at_call 41; (with_reducible refine (Floor_at h.drw 0 he (by omega) k hk hj).mono ?_); rintro e v2 ⟨A5, n5, c5, rfl, z5, hb1⟩; replace hb1 := undrew hb1; replace x_m := x_m.keep hb1; replace x_x := x_x.keep hb1; replace x_y := x_y.keep hb1; replace x_d := x_d.keep hb1; replace h := h.keep hb1; replace hb := bthen hb hb1; clear hb1; replace q_m0 := x_m.c0; replace f_m0 := x_m.fr 0; replace q_m1 := x_m.c1; replace f_m1 := x_m.fr 1; replace q_x0 := x_x.c0; replace f_x0 := x_x.fr 0; replace q_x1 := x_x.c1; replace f_x1 := x_x.fr 1; replace q_y0 := x_y.c0; replace f_y0 := x_y.fr 0; replace q_y1 := x_y.c1; replace f_y1 := x_y.fr 1; replace q_d0 := x_d.c0; replace f_d0 := x_d.fr 0; replace q_d1 := x_d.c1; replace f_d1 := x_d.fr 1; replace q_d2 := x_d.c2; replace f_d2 := x_d.fr 2; rw [HE.out, HL.out] at z5; rw [HE.out, HL.out]) | (go_at_call 42; (with_reducible refine (Ceil_at h 0 he (by omega) k hk hj).mono ?_); rintro e v3 ⟨A6, n6, c6, rfl, z6, hb1⟩; replace x_m := x_m.keep hb1; replace x_x := x_x.keep hb1; replace x_y := x_y.keep hb1; replace x_d := x_d.keep hb1; replace h := h.keep hb1; replace z5 := z5.keep hb1; replace hb := bthen hb hb1; clear hb1; replace q_m0 := x_m.c0; replace f_m0 := x_m.fr 0; replace q_m1 := x_m.c1; replace f_m1 := x_m.fr 1; replace q_x0 := x_x.c0; replace f_x0 := x_x.fr 0; replace q_x1 := x_x.c1; replace f_x1 := x_x.fr 1; replace q_y0 := x_y.c0; replace f_y0 := x_y.fr 0; replace q_y1 := x_y.c1; replace f_y1 := x_y.fr 1; replace q_d0 := x_d.c0; replace f_d0 := x_d.fr 0; replace q_d1 := x_d.c1; replace f_d1 := x_d.fr 1; replace q_d2 := x_d.c2; replace f_d2 := x_d.fr 2; rw [HE.out, HH.out] at z6; rw [HE.out, HH.out]))
 go_wp2
 replace x_m := x_m.aside (b' := (ngB L)) (A' := A5) (n' := n5) (c' := c5) (g := w.heap.size + 1) (by omega)
 replace x_y := x_y.aside (b' := (ngB L)) (A' := A5) (n' := n5) (c' := c5) (g := w.heap.size + 1) (by omega)
 replace x_d := x_d.aside (b' := (ngB L)) (A' := A5) (n' := n5) (c' := c5) (g := w.heap.size + 1) (by omega)
 replace h := h.put (b' := (ngB L)) (A' := A5) (n' := n5) (c' := c5) x_x
 replace z5 := z5.put (b' := (ngB L)) (A' := A5) (n' := n5) (c' := c5) x_x
 replace z6 := z6.put (b' := (ngB L)) (A' := A5) (n' := n5) (c' := c5) x_x
 replace hb := put_below (g := w.heap.size + 1) hb (by omega) (.bool (ngB L)) (.slice A5 n5 c5)
 replace x_x := x_x.put (ngB L) A5 n5 c5
 clear q_m0 f_m0 q_m1 f_m1 q_x0 f_x0 q_x1 f_x1 q_y0 f_y0 q_y1 f_y1 q_d0 f_d0 q_d1 f_d1 q_d2 f_d2
 generalize (v3.setCell ⟨w.heap.size + 1, 0, none⟩ (.bool (ngB L))).setCell ⟨w.heap.size + 1, 1, none⟩ (.slice A5 n5 c5) = v4 at *
 obtain ⟨q_m0, f_m0, q_m1, f_m1⟩ := x_m.al
 obtain ⟨q_x0, f_x0, q_x1, f_x1⟩ := x_x.al
 obtain ⟨q_y0, f_y0, q_y1, f_y1⟩ := x_y.al
 have q_d0 := x_d.c0; have f_d0 := x_d.fr 0; have q_d1 := x_d.c1; have f_d1 := x_d.fr 1; have q_d2 := x_d.c2; have f_d2 := x_d.fr 2
 replace x_m := x_m.aside (b' := (ngB H)) (A' := A6) (n' := n6) (c' := c6) (g := w.heap.size + 1 + 1) (by omega)
 replace x_x := x_x.aside (b' := (ngB H)) (A' := A6) (n' := n6) (c' := c6) (g := w.heap.size + 1 + 1) (by omega)
 replace x_d := x_d.aside (b' := (ngB H)) (A' := A6) (n' := n6) (c' := c6) (g := w.heap.size + 1 + 1) (by omega)
 replace h := h.put (b' := (ngB H)) (A' := A6) (n' := n6) (c' := c6) x_y
 replace z5 := z5.put (b' := (ngB H)) (A' := A6) (n' := n6) (c' := c6) x_y
 replace z6 := z6.put (b' := (ngB H)) (A' := A6) (n' := n6) (c' := c6) x_y
 replace hb := put_below (g := w.heap.size + 1 + 1) hb (by omega) (.bool (ngB H)) (.slice A6 n6 c6)
 replace x_y := x_y.put (ngB H) A6 n6 c6
 clear q_m0 f_m0 q_m1 f_m1 q_x0 f_x0 q_x1 f_x1 q_y0 f_y0 q_y1 f_y1 q_d0 f_d0 q_d1 f_d1 q_d2 f_d2
 generalize (v4.setCell ⟨w.heap.size + 1 + 1, 0, none⟩ (.bool (ngB H))).setCell ⟨w.heap.size + 1 + 1, 1, none⟩ (.slice A6 n6 c6) = v5 at *
 obtain ⟨q_m0, f_m0, q_m1, f_m1⟩ := x_m.al
 obtain ⟨q_x0, f_x0, q_x1, f_x1⟩ := x_x.al
 obtain ⟨q_y0, f_y0, q_y1, f_y1⟩ := x_y.al
 have q_d0 := x_d.c0; have f_d0 := x_d.fr 0; have q_d1 := x_d.c1; have f_d1 := x_d.fr 1; have q_d2 := x_d.c2; have f_d2 := x_d.fr 2
 refine bodyPost_ret (v := .tuple #[.agg #[.bool (ngB L), .slice A5 n5 c5], .agg #[.bool (ngB H), .slice A6 n6 c6]]) (by simp [results, Tryz.results60, go_sem, q_x0, q_x1, q_y0, q_y1]) rfl ?_
 exact ⟨_, _, _, _, _, _, rfl, z5, z6, hb⟩

end Go.Proofs.YtiigacddjihokaaGreatDoor
