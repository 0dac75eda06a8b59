/-
 the document's answers for ball: floor.
-/
import Derived.Test.YtiigacddjihokaaGreatDoorLref0
import Derived.Test.YtiigacddjihokaaGreatDoorLrdn
import Derived.Test.YtiigacddjihokaaGreatDoorPk
import Derived.Deep.DeepCutAuto
namespace Go.Proofs.YtiigacddjihokaaGreatDoor
open Go.RowKit
set_option linter.unusedVariables false

/-- A new box of an integer, in a world that is otherwise as it was. -/
def BnNew1 (v : World) (X : Int) (k : Nat) (s : Value) (wx : World) : Prop :=
 ∃ g A n c, s = .pointer (some ⟨g, 0, none⟩) ∧ Bx wx g (ngB X) A n c ∧ Zn wx A n c X k ∧ v.heap.size ≤ g ∧ Below v.heap.size v wx
theorem BnNew1.put {v wx : World} {X : Int} {k g n c m d : Nat} {p : Bool} {A B : Option Addr} (hv : Below v.heap.size v wx) (x : Bx wx g p B m d) (hg : v.heap.size ≤ g) (z : Zn wx A n c X k) :
  BnNew1 v X k (.pointer (some ⟨g, 0, none⟩)) ((wx.setCell ⟨g, 0, none⟩ (.bool (ngB X))).setCell ⟨g, 1, none⟩ (.slice A n c)) :=
 ⟨g, A, n, c, rfl, x.put _ _ _ _, z.put x, hg, put_below hv hg _ _⟩
theorem BnNew1.new {v wx : World} {X : Int} {k n c : Nat} {A : Option Addr} (hv : Below v.heap.size v wx) (z : Zn wx A n c X k) :
  BnNew1 v X k (.pointer (some ⟨wx.heap.size, 0, none⟩)) (wx.alloc (.cells #[.bool (ngB X), .slice A n c] 24)) :=
 ⟨wx.heap.size, A, n, c, rfl, Bx.new _ _ _ _ _, z.keep (below_alloc _ _), hv.size, bthen hv (below_alloc _ _)⟩
theorem fq_fd (X Y : Int) : fqI X Y = fdI X Y := rfl
theorem up_cd {X Y : Int} (h : Y ≠ 0) : upI X Y = cdI X Y := by rw [up_fl h, fq_fd]; rfl
theorem up_fd {X Y : Int} (h : Y ≠ 0) : -upI (-X) Y = fdI X Y := by rw [up_fl h, fq_fd, Int.neg_neg, Int.neg_neg]

set_option maxRecDepth 100000 in
set_option maxHeartbeats 4000000 in
theorem Rfl_any {b b2 : Bool} {A A2 : Option Addr} {n c n2 c2 : Nat} {X Y : Int} {j j2 : Nat} {w : World} (h : Zr w b A n c X j) (h2 : Zr w b2 A2 n2 c2 Y j2) (hY : Y ≠ 0) (hj : j ≤ 140) (hj2 : j2 ≤ 8) :
  Calls Tryz.prog 72 #[.agg #[.bool b, .slice A n c], .agg #[.bool b2, .slice A2 n2 c2]] w (OutZ w (fdI X Y) 150) := by
 have hud := up_fd (X := X) hY
 obtain ⟨U, hU⟩ : ∃ U, upI (-X) Y = U := ⟨_, rfl⟩
 rw [hU] at hud
 obtain ⟨D, hD⟩ : ∃ D, fdI X Y = D := ⟨_, rfl⟩
 rw [hD] at hud ⊢
 have HU := Lib.hid hU; have HD := Lib.hid hud; clear hU hD hud
 go_enter Tryz.func72, Tryz.ntmps72
 go_wp2_with fail
 have x_a : Bx (w.alloc (.cells #[.bool b, .slice A n c] 24)) (w.heap.size) b A n c := by have := Bx.new w b A n c; simpa using this
 replace x_a := x_a.alloc (.cells #[.bool b2, .slice A2 n2 c2] 24)
 have x_b : Bx ((w.alloc (.cells #[.bool b, .slice A n c] 24)).alloc (.cells #[.bool b2, .slice A2 n2 c2] 24)) (w.heap.size + 1) b2 A2 n2 c2 := by have := Bx.new (w.alloc (.cells #[.bool b, .slice A n c] 24)) b2 A2 n2 c2; simpa using this
 replace x_a := x_a.alloc (.cells #[.bool false, .slice none 0 0] 24)
 replace x_b := x_b.alloc (.cells #[.bool false, .slice none 0 0] 24)
 have x_r : Bx (((w.alloc (.cells #[.bool b, .slice A n c] 24)).alloc (.cells #[.bool b2, .slice A2 n2 c2] 24)).alloc (.cells #[.bool false, .slice none 0 0] 24)) (w.heap.size + 1 + 1) false none 0 0 := by have := Bx.new ((w.alloc (.cells #[.bool b, .slice A n c] 24)).alloc (.cells #[.bool b2, .slice A2 n2 c2] 24)) false none 0 0; simpa using this
 have hb : Below w.heap.size w (((w.alloc (.cells #[.bool b, .slice A n c] 24)).alloc (.cells #[.bool b2, .slice A2 n2 c2] 24)).alloc (.cells #[.bool false, .slice none 0 0] 24)) := (Below.alloc (Below.alloc (Below.alloc (Below.refl w.heap.size w) (by simp) (.cells #[.bool b, .slice A n c] 24)) (by simp) (.cells #[.bool b2, .slice A2 n2 c2] 24)) (by simp; omega) (.cells #[.bool false, .slice none 0 0] 24))
 generalize ((w.alloc (.cells #[.bool b, .slice A n c] 24)).alloc (.cells #[.bool b2, .slice A2 n2 c2] 24)).alloc (.cells #[.bool false, .slice none 0 0] 24) = v1 at *
 replace h := h.keep hb
 replace h2 := h2.keep hb
 obtain ⟨q_a0, f_a0, q_a1, f_a1⟩ := x_a.al
 obtain ⟨q_b0, f_b0, q_b1, f_b1⟩ := x_b.al
 obtain ⟨q_r0, f_r0, q_r1, f_r1⟩ := x_r.al
 go_upto_region 1 with fail
 have hv := Below.refl v1.heap.size v1
 have l_a_q := x_a.lt
 have l_b_q := x_b.lt
 have l_r_q := x_r.lt
 go_cut [5] (fun s9 wx => BnNew1 v1 U 145 s9 wx)
 case first =>
  go_region_held3 (fun w' => w'.cell? ⟨w.heap.size, 0, none⟩ = some (.bool b) ∧ w'.cell? ⟨w.heap.size, 1, none⟩ = some (.slice A n c) ∧ w'.cell? ⟨w.heap.size + 1, 0, none⟩ = some (.bool b2) ∧ w'.cell? ⟨w.heap.size + 1, 1, none⟩ = some (.slice A2 n2 c2))
   (first | (with_reducible exact ⟨x_a.c0, x_a.c1, x_b.c0, x_b.c1⟩) | (with_reducible exact ⟨(x_a.alloc _).c0, (x_a.alloc _).c1, (x_b.alloc _).c0, (x_b.alloc _).c1⟩) | (with_reducible exact ⟨(x_a.aside (by omega)).c0, (x_a.aside (by omega)).c1, (x_b.aside (by omega)).c0, (x_b.aside (by omega)).c1⟩) | (with_reducible exact ⟨((x_a.alloc _).aside (by omega)).c0, ((x_a.alloc _).aside (by omega)).c1, ((x_b.alloc _).aside (by omega)).c0, ((x_b.alloc _).aside (by omega)).c1⟩) | go_keep)
   (first | (go_at_call 92; (with_reducible refine (RNegZ_any h.drw 140 (by omega) (by omega)).mono ?_); rintro e v2 ⟨A5, n5, c5, rfl, z5, hb1⟩; replace hb1 := undrew hb1; (try replace x_q := x_q.keep hb1); replace hv := bthen hv hb1; have hvs_v2 := hv.size; replace x_a := x_a.keep hb1; replace x_b := x_b.keep hb1; replace x_r := x_r.keep hb1; replace h := h.keep hb1; replace h2 := h2.keep hb1; replace hb := bthen hb hb1; clear hb1; clear q_a0 f_a0 q_a1 f_a1; obtain ⟨q_a0, f_a0, q_a1, f_a1⟩ := x_a.al; clear q_b0 f_b0 q_b1 f_b1; obtain ⟨q_b0, f_b0, q_b1, f_b1⟩ := x_b.al; clear q_r0 f_r0 q_r1 f_r1; obtain ⟨q_r0, f_r0, q_r1, f_r1⟩ := x_r.al; (try (obtain ⟨q_q0, f_q0, q_q1, f_q1⟩ := x_q.al))) | (go_at_call 92; (with_reducible refine (RNegZ_any (h.keep (below_alloc v1 (.cells #[.bool false, .slice none 0 0] 24))).drw 140 (by omega) (by omega)).mono ?_); rintro e v2 ⟨A5, n5, c5, rfl, z5, hb1⟩; replace hb1 := undrew hb1; have x_q := (Bx.new v1 false none 0 0).keep hb1; replace hb1 := bthen (below_alloc v1 (.cells #[.bool false, .slice none 0 0] 24)) hb1; replace hv := bthen hv hb1; have hvs_v2 := hv.size; replace x_a := x_a.keep hb1; replace x_b := x_b.keep hb1; replace x_r := x_r.keep hb1; replace h := h.keep hb1; replace h2 := h2.keep hb1; replace hb := bthen hb hb1; clear hb1; clear q_a0 f_a0 q_a1 f_a1; obtain ⟨q_a0, f_a0, q_a1, f_a1⟩ := x_a.al; clear q_b0 f_b0 q_b1 f_b1; obtain ⟨q_b0, f_b0, q_b1, f_b1⟩ := x_b.al; clear q_r0 f_r0 q_r1 f_r1; obtain ⟨q_r0, f_r0, q_r1, f_r1⟩ := x_r.al; (try (obtain ⟨q_q0, f_q0, q_q1, f_q1⟩ := x_q.al))) | (go_at_call 73; (with_reducible refine (RUpZ_any z5.zr h2 hY 141 (by omega) (by omega) (by omega)).mono ?_); rintro e v3 ⟨A6, n6, c6, rfl, z6, hb1⟩; (try replace x_q := x_q.keep hb1); replace hv := bthen hv hb1; have hvs_v3 := hv.size; replace x_a := x_a.keep hb1; replace x_b := x_b.keep hb1; replace x_r := x_r.keep hb1; replace h := h.keep hb1; replace h2 := h2.keep hb1; replace z5 := z5.keep hb1; replace hb := bthen hb hb1; clear hb1; clear q_a0 f_a0 q_a1 f_a1; obtain ⟨q_a0, f_a0, q_a1, f_a1⟩ := x_a.al; clear q_b0 f_b0 q_b1 f_b1; obtain ⟨q_b0, f_b0, q_b1, f_b1⟩ := x_b.al; clear q_r0 f_r0 q_r1 f_r1; obtain ⟨q_r0, f_r0, q_r1, f_r1⟩ := x_r.al; rw [HU.out] at z6 ⊢; (try (obtain ⟨q_q0, f_q0, q_q1, f_q1⟩ := x_q.al))) | (go_at_call 73; (with_reducible refine (RUpZ_any (z5.keep (below_alloc v2 (.cells #[.bool false, .slice none 0 0] 24))).zr (h2.keep (below_alloc v2 (.cells #[.bool false, .slice none 0 0] 24))) hY 141 (by omega) (by omega) (by omega)).mono ?_); rintro e v3 ⟨A6, n6, c6, rfl, z6, hb1⟩; have x_q := (Bx.new v2 false none 0 0).keep hb1; replace hb1 := bthen (below_alloc v2 (.cells #[.bool false, .slice none 0 0] 24)) hb1; replace hv := bthen hv hb1; have hvs_v3 := hv.size; replace x_a := x_a.keep hb1; replace x_b := x_b.keep hb1; replace x_r := x_r.keep hb1; replace h := h.keep hb1; replace h2 := h2.keep hb1; replace z5 := z5.keep hb1; replace hb := bthen hb hb1; clear hb1; clear q_a0 f_a0 q_a1 f_a1; obtain ⟨q_a0, f_a0, q_a1, f_a1⟩ := x_a.al; clear q_b0 f_b0 q_b1 f_b1; obtain ⟨q_b0, f_b0, q_b1, f_b1⟩ := x_b.al; clear q_r0 f_r0 q_r1 f_r1; obtain ⟨q_r0, f_r0, q_r1, f_r1⟩ := x_r.al; rw [HU.out] at z6 ⊢; (try (obtain ⟨q_q0, f_q0, q_q1, f_q1⟩ := x_q.al))))
  all_goals go_wp2_with fail
  all_goals go_meet
  all_goals first | (with_reducible exact BnNew1.new hv z6) | (with_reducible exact BnNew1.put hv x_q (by omega) z6)
 case rest =>
  obtain ⟨g4, Ax5, nx5, cx5, rfl, x_q, z_q, e_q, hb1⟩ := hcut
  clear hv
  replace x_a := x_a.keep hb1
  replace x_b := x_b.keep hb1
  replace x_r := x_r.keep hb1
  replace h := h.keep hb1
  replace h2 := h2.keep hb1
  replace hb := bthen hb hb1
  clear hb1
  clear q_a0 f_a0 q_a1 f_a1; obtain ⟨q_a0, f_a0, q_a1, f_a1⟩ := x_a.al
  clear q_b0 f_b0 q_b1 f_b1; obtain ⟨q_b0, f_b0, q_b1, f_b1⟩ := x_b.al
  clear q_r0 f_r0 q_r1 f_r1; obtain ⟨q_r0, f_r0, q_r1, f_r1⟩ := x_r.al
  clear q_a0 f_a0 q_a1 f_a1 q_b0 f_b0 q_b1 f_b1 q_r0 f_r0 q_r1 f_r1
  generalize wc = v6 at *
  obtain ⟨q_a0, f_a0, q_a1, f_a1⟩ := x_a.al
  obtain ⟨q_b0, f_b0, q_b1, f_b1⟩ := x_b.al
  obtain ⟨q_r0, f_r0, q_r1, f_r1⟩ := x_r.al
  obtain ⟨q_q0, f_q0, q_q1, f_q1⟩ := x_q.al
  go_wp2_with fail
  with_reducible refine (RNegZ_any z_q.zr 150 (by omega) (by omega)).mono ?_
  rintro e v7 ⟨A7, n7, c7, rfl, z7, hb1⟩
  replace x_a := x_a.keep hb1
  replace x_b := x_b.keep hb1
  replace x_r := x_r.keep hb1
  replace x_q := x_q.keep hb1
  replace h := h.keep hb1
  replace h2 := h2.keep hb1
  replace z_q := z_q.keep hb1
  replace hb := bthen hb hb1
  clear hb1
  clear q_a0 f_a0 q_a1 f_a1; obtain ⟨q_a0, f_a0, q_a1, f_a1⟩ := x_a.al
  clear q_b0 f_b0 q_b1 f_b1; obtain ⟨q_b0, f_b0, q_b1, f_b1⟩ := x_b.al
  clear q_r0 f_r0 q_r1 f_r1; obtain ⟨q_r0, f_r0, q_r1, f_r1⟩ := x_r.al
  clear q_q0 f_q0 q_q1 f_q1; obtain ⟨q_q0, f_q0, q_q1, f_q1⟩ := x_q.al
  rw [HD.out] at z7 ⊢
  go_wp2
  replace x_a := x_a.aside (b' := (ngB D)) (A' := A7) (n' := n7) (c' := c7) (g := w.heap.size + 1 + 1) (by omega)
  replace x_b := x_b.aside (b' := (ngB D)) (A' := A7) (n' := n7) (c' := c7) (g := w.heap.size + 1 + 1) (by omega)
  replace x_q := x_q.aside (b' := (ngB D)) (A' := A7) (n' := n7) (c' := c7) (g := w.heap.size + 1 + 1) (by omega)
  replace h := h.put (b' := (ngB D)) (A' := A7) (n' := n7) (c' := c7) x_r
  replace h2 := h2.put (b' := (ngB D)) (A' := A7) (n' := n7) (c' := c7) x_r
  replace z_q := z_q.put (b' := (ngB D)) (A' := A7) (n' := n7) (c' := c7) x_r
  replace z7 := z7.put (b' := (ngB D)) (A' := A7) (n' := n7) (c' := c7) x_r
  replace hb := put_below (g := w.heap.size + 1 + 1) hb (by omega) (.bool (ngB D)) (.slice A7 n7 c7)
  replace x_r := x_r.put (ngB D) A7 n7 c7
  clear q_a0 f_a0 q_a1 f_a1 q_b0 f_b0 q_b1 f_b1 q_r0 f_r0 q_r1 f_r1 q_q0 f_q0 q_q1 f_q1
  generalize (v7.setCell ⟨w.heap.size + 1 + 1, 0, none⟩ (.bool (ngB D))).setCell ⟨w.heap.size + 1 + 1, 1, none⟩ (.slice A7 n7 c7) = v8 at *
  obtain ⟨q_a0, f_a0, q_a1, f_a1⟩ := x_a.al
  obtain ⟨q_b0, f_b0, q_b1, f_b1⟩ := x_b.al
  obtain ⟨q_r0, f_r0, q_r1, f_r1⟩ := x_r.al
  obtain ⟨q_q0, f_q0, q_q1, f_q1⟩ := x_q.al
  refine bodyPost_ret (v := .agg #[.bool (ngB D), .slice A7 n7 c7]) (by simp [results, Tryz.results72, go_sem, q_r0, q_r1]) rfl ?_
  exact ⟨_, _, _, rfl, z7, hb⟩

end Go.Proofs.YtiigacddjihokaaGreatDoor
