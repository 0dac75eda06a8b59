/-
 ball: Meets.
-/
import Derived.Test.YtjlbngjeekdfcaaGreatDoorLhas
import Derived.Test.YtjlbngjeekdfcaaGreatDoorEbox
namespace Go.Proofs.YtjlbngjeekdfcaaGreatDoor
set_option maxRecDepth 100000
set_option maxHeartbeats 4000000
set_option linter.unusedVariables false
open Go.RowKit
theorem Meets_any {b b2 b3 b4 : Bool} {A A2 A3 A4 : Option Addr} {n c n2 c2 n3 c3 n4 c4 : Nat} {X Y U V q r : Int} {j j2 j3 j4 : Nat} {w : World} (h : Zr w b A n c X j) (h2 : Zr w b2 A2 n2 c2 Y j2) (h3 : Zr w b3 A3 n3 c3 U j3) (h4 : Zr w b4 A4 n4 c4 V j4) (hj : j ≤ 100000) (hj2 : j2 ≤ 100000) (hj3 : j3 ≤ 100000) (hj4 : j4 ≤ 100000) :
  Calls Tryz.prog 14 #[.agg #[.bool b, .slice A n c, .bool b2, .slice A2 n2 c2, .int .i64 q], .agg #[.bool b3, .slice A3 n3 c3, .bool b4, .slice A4 n4 c4, .int .i64 r]] w fun en w' => en = .returned (.bool (metB X Y q U V r)) ∧ Below w.heap.size w w' := by
 by_cases hr : 0 ≤ q ∧ q ≤ 2048 ∧ X ≤ Y
 ·have HR := Lib.hid (rB_yes hr)
  by_cases hs : 0 ≤ r ∧ r ≤ 2048 ∧ U ≤ V
  ·have HS := Lib.hid (rB_yes hs)
   have hq : 0 ≤ q ∧ q ≤ 2048 := ⟨hr.1, hr.2.1⟩
   have hq2 : 0 ≤ r ∧ r ≤ 2048 := ⟨hs.1, hs.2.1⟩
   have i1 := cmp_le (X := X) (Y := V) (e := -q) (f := -r)
   rw [(c_q (X := X) hq).1, (c_q (X := X) hq).2, (c_q (X := V) hq2).1, (c_q (X := V) hq2).2] at i1
   obtain ⟨C1, hC1⟩ : ∃ C, sgnI (alP X (-q) (-r) - alQ V (-q) (-r)) = C := ⟨_, rfl⟩
   rw [hC1] at i1
   have HC1 := Lib.hid hC1; clear hC1
   have i2 := cmp_le (X := U) (Y := Y) (e := -r) (f := -q)
   rw [(c_q (X := U) hq2).1, (c_q (X := U) hq2).2, (c_q (X := Y) hq).1, (c_q (X := Y) hq).2] at i2
   obtain ⟨C2, hC2⟩ : ∃ C, sgnI (alP U (-r) (-q) - alQ Y (-r) (-q)) = C := ⟨_, rfl⟩
   rw [hC2] at i2
   have HC2 := Lib.hid hC2; clear hC2
   by_cases d1 : C1 ≤ 0
   ·by_cases d2 : C2 ≤ 0
    ·have HF : Hid (metB X Y q U V r = true) := Lib.hid (by unfold metB; exact decide_eq_true ⟨hr, hs, i1.1 d1, i2.1 d2⟩)
     clear hr hs i1 i2
     go_enter Tryz.func14, Tryz.ntmps14
     go_wp2_with fail
     refine al2 fun v1 hb x_a x_d => ?_
     replace x_a := Lx.of x_a; replace x_d := Lx.of x_d
     obtain ⟨h, h2, h3, h4⟩ := mv4 hb h h2 h3 h4
     have q_a := x_a.al
     have q_d := x_d.al
     go_wp2_with fail
     go_region_held3 (fun w' => w'.cell? ⟨w.heap.size, 0, none⟩ = some (.bool b) ∧ w'.cell? ⟨w.heap.size, 1, none⟩ = some (.slice A n c) ∧ w'.cell? ⟨w.heap.size, 2, none⟩ = some (.bool b2) ∧ w'.cell? ⟨w.heap.size, 3, none⟩ = some (.slice A2 n2 c2) ∧ w'.cell? ⟨w.heap.size, 4, none⟩ = some (.int .i64 q) ∧ w'.cell? ⟨w.heap.size + 1, 0, none⟩ = some (.bool b3) ∧ w'.cell? ⟨w.heap.size + 1, 1, none⟩ = some (.slice A3 n3 c3) ∧ w'.cell? ⟨w.heap.size + 1, 2, none⟩ = some (.bool b4) ∧ w'.cell? ⟨w.heap.size + 1, 3, none⟩ = some (.slice A4 n4 c4) ∧ w'.cell? ⟨w.heap.size + 1, 4, none⟩ = some (.int .i64 r))
      (first | (with_reducible exact ⟨x_a.c0, x_a.c1, x_a.c2, x_a.c3, x_a.c4, x_d.c0, x_d.c1, x_d.c2, x_d.c3, x_d.c4⟩) | (with_reducible exact ⟨(x_a.aside (by omega)).c0, (x_a.aside (by omega)).c1, (x_a.aside (by omega)).c2, (x_a.aside (by omega)).c3, (x_a.aside (by omega)).c4, (x_d.aside (by omega)).c0, (x_d.aside (by omega)).c1, (x_d.aside (by omega)).c2, (x_d.aside (by omega)).c3, (x_d.aside (by omega)).c4⟩) | (with_reducible exact ⟨((x_a.aside (by omega)).aside (by omega)).c0, ((x_a.aside (by omega)).aside (by omega)).c1, ((x_a.aside (by omega)).aside (by omega)).c2, ((x_a.aside (by omega)).aside (by omega)).c3, ((x_a.aside (by omega)).aside (by omega)).c4, ((x_d.aside (by omega)).aside (by omega)).c0, ((x_d.aside (by omega)).aside (by omega)).c1, ((x_d.aside (by omega)).aside (by omega)).c2, ((x_d.aside (by omega)).aside (by omega)).c3, ((x_d.aside (by omega)).aside (by omega)).c4⟩) | (with_reducible exact ⟨(x_a.asideD (by omega)).c0, (x_a.asideD (by omega)).c1, (x_a.asideD (by omega)).c2, (x_a.asideD (by omega)).c3, (x_a.asideD (by omega)).c4, (x_d.asideD (by omega)).c0, (x_d.asideD (by omega)).c1, (x_d.asideD (by omega)).c2, (x_d.asideD (by omega)).c3, (x_d.asideD (by omega)).c4⟩) | (with_reducible exact ⟨((x_a.asideD (by omega)).asideD (by omega)).c0, ((x_a.asideD (by omega)).asideD (by omega)).c1, ((x_a.asideD (by omega)).asideD (by omega)).c2, ((x_a.asideD (by omega)).asideD (by omega)).c3, ((x_a.asideD (by omega)).asideD (by omega)).c4, ((x_d.asideD (by omega)).asideD (by omega)).c0, ((x_d.asideD (by omega)).asideD (by omega)).c1, ((x_d.asideD (by omega)).asideD (by omega)).c2, ((x_d.asideD (by omega)).asideD (by omega)).c3, ((x_d.asideD (by omega)).asideD (by omega)).c4⟩) | (with_reducible exact ⟨(x_a.asideL (by omega)).c0, (x_a.asideL (by omega)).c1, (x_a.asideL (by omega)).c2, (x_a.asideL (by omega)).c3, (x_a.asideL (by omega)).c4, (x_d.asideL (by omega)).c0, (x_d.asideL (by omega)).c1, (x_d.asideL (by omega)).c2, (x_d.asideL (by omega)).c3, (x_d.asideL (by omega)).c4⟩) | (with_reducible exact ⟨((x_a.asideL (by omega)).asideL (by omega)).c0, ((x_a.asideL (by omega)).asideL (by omega)).c1, ((x_a.asideL (by omega)).asideL (by omega)).c2, ((x_a.asideL (by omega)).asideL (by omega)).c3, ((x_a.asideL (by omega)).asideL (by omega)).c4, ((x_d.asideL (by omega)).asideL (by omega)).c0, ((x_d.asideL (by omega)).asideL (by omega)).c1, ((x_d.asideL (by omega)).asideL (by omega)).c2, ((x_d.asideL (by omega)).asideL (by omega)).c3, ((x_d.asideL (by omega)).asideL (by omega)).c4⟩) | go_keep)
      (first | (go_at_call 13; (with_reducible refine (Right_any h.drw h2.drw (by omega) (by omega)).mono ?_); rintro e v2 ⟨rfl, hb1⟩; replace hb1 := undrew hb1; obtain ⟨x_a, x_d, h, h2, h3, h4, hb⟩ := mv7 hb1 x_a x_d h h2 h3 h4 hb; clear hb1; replace q_a := x_a.al; replace q_d := x_d.al; rw [HR.out]) | (go_at_call 13; (with_reducible refine (Right_any h3 h4 (by omega) (by omega)).mono ?_); rintro e v3 ⟨rfl, hb1⟩; obtain ⟨x_a, x_d, h, h2, h3, h4, hb⟩ := mv7 hb1 x_a x_d h h2 h3 h4 hb; clear hb1; replace q_a := x_a.al; replace q_d := x_d.al; rw [HS.out]) | (go_at_call 39; (with_reducible refine (low_any hq).mono ?_); rintro e v4 ⟨rfl, hb1⟩; obtain ⟨x_a, x_d, h, h2, h3, h4, hb⟩ := mv7 hb1 x_a x_d h h2 h3 h4 hb; clear hb1; replace q_a := x_a.al; replace q_d := x_d.al) | (go_at_call 40; (with_reducible refine (high_any hq2).mono ?_); rintro e v5 ⟨rfl, hb1⟩; obtain ⟨x_a, x_d, h, h2, h3, h4, hb⟩ := mv7 hb1 x_a x_d h h2 h3 h4 hb; clear hb1; replace q_a := x_a.al; replace q_d := x_d.al) | (go_at_call 38; (with_reducible refine (DCmp_any h h4 (by omega) (by omega)).mono ?_); rintro e v6 ⟨rfl, hb1⟩; obtain ⟨x_a, x_d, h, h2, h3, h4, hb⟩ := mv7 hb1 x_a x_d h h2 h3 h4 hb; clear hb1; replace q_a := x_a.al; replace q_d := x_d.al; rw [HC1.out]) | (go_at_call 39; (with_reducible refine (low_any hq2).mono ?_); rintro e v7 ⟨rfl, hb1⟩; obtain ⟨x_a, x_d, h, h2, h3, h4, hb⟩ := mv7 hb1 x_a x_d h h2 h3 h4 hb; clear hb1; replace q_a := x_a.al; replace q_d := x_d.al) | (go_at_call 40; (with_reducible refine (high_any hq).mono ?_); rintro e v8 ⟨rfl, hb1⟩; obtain ⟨x_a, x_d, h, h2, h3, h4, hb⟩ := mv7 hb1 x_a x_d h h2 h3 h4 hb; clear hb1; replace q_a := x_a.al; replace q_d := x_d.al) | (go_at_call 38; (with_reducible refine (DCmp_any h3 h2 (by omega) (by omega)).mono ?_); rintro e v9 ⟨rfl, hb1⟩; obtain ⟨x_a, x_d, h, h2, h3, h4, hb⟩ := mv7 hb1 x_a x_d h h2 h3 h4 hb; clear hb1; replace q_a := x_a.al; replace q_d := x_d.al; rw [HC2.out]))
     go_wp2
     go_ret
     exact ⟨qB_bool HF.out.symm, hb⟩
    ·have HF : Hid (metB X Y q U V r = false) := Lib.hid (by unfold metB; exact dec_no (fun hc => d2 (i2.2 hc.2.2.2)))
     clear hr hs i1 i2
     go_enter Tryz.func14, Tryz.ntmps14
     go_wp2_with fail
     refine al2 fun v1 hb x_a x_d => ?_
     replace x_a := Lx.of x_a; replace x_d := Lx.of x_d
     obtain ⟨h, h2, h3, h4⟩ := mv4 hb h h2 h3 h4
     have q_a := x_a.al
     have q_d := x_d.al
     go_wp2_with fail
     go_region_held3 (fun w' => w'.cell? ⟨w.heap.size, 0, none⟩ = some (.bool b) ∧ w'.cell? ⟨w.heap.size, 1, none⟩ = some (.slice A n c) ∧ w'.cell? ⟨w.heap.size, 2, none⟩ = some (.bool b2) ∧ w'.cell? ⟨w.heap.size, 3, none⟩ = some (.slice A2 n2 c2) ∧ w'.cell? ⟨w.heap.size, 4, none⟩ = some (.int .i64 q) ∧ w'.cell? ⟨w.heap.size + 1, 0, none⟩ = some (.bool b3) ∧ w'.cell? ⟨w.heap.size + 1, 1, none⟩ = some (.slice A3 n3 c3) ∧ w'.cell? ⟨w.heap.size + 1, 2, none⟩ = some (.bool b4) ∧ w'.cell? ⟨w.heap.size + 1, 3, none⟩ = some (.slice A4 n4 c4) ∧ w'.cell? ⟨w.heap.size + 1, 4, none⟩ = some (.int .i64 r))
      (first | (with_reducible exact ⟨x_a.c0, x_a.c1, x_a.c2, x_a.c3, x_a.c4, x_d.c0, x_d.c1, x_d.c2, x_d.c3, x_d.c4⟩) | (with_reducible exact ⟨(x_a.aside (by omega)).c0, (x_a.aside (by omega)).c1, (x_a.aside (by omega)).c2, (x_a.aside (by omega)).c3, (x_a.aside (by omega)).c4, (x_d.aside (by omega)).c0, (x_d.aside (by omega)).c1, (x_d.aside (by omega)).c2, (x_d.aside (by omega)).c3, (x_d.aside (by omega)).c4⟩) | (with_reducible exact ⟨((x_a.aside (by omega)).aside (by omega)).c0, ((x_a.aside (by omega)).aside (by omega)).c1, ((x_a.aside (by omega)).aside (by omega)).c2, ((x_a.aside (by omega)).aside (by omega)).c3, ((x_a.aside (by omega)).aside (by omega)).c4, ((x_d.aside (by omega)).aside (by omega)).c0, ((x_d.aside (by omega)).aside (by omega)).c1, ((x_d.aside (by omega)).aside (by omega)).c2, ((x_d.aside (by omega)).aside (by omega)).c3, ((x_d.aside (by omega)).aside (by omega)).c4⟩) | (with_reducible exact ⟨(x_a.asideD (by omega)).c0, (x_a.asideD (by omega)).c1, (x_a.asideD (by omega)).c2, (x_a.asideD (by omega)).c3, (x_a.asideD (by omega)).c4, (x_d.asideD (by omega)).c0, (x_d.asideD (by omega)).c1, (x_d.asideD (by omega)).c2, (x_d.asideD (by omega)).c3, (x_d.asideD (by omega)).c4⟩) | (with_reducible exact ⟨((x_a.asideD (by omega)).asideD (by omega)).c0, ((x_a.asideD (by omega)).asideD (by omega)).c1, ((x_a.asideD (by omega)).asideD (by omega)).c2, ((x_a.asideD (by omega)).asideD (by omega)).c3, ((x_a.asideD (by omega)).asideD (by omega)).c4, ((x_d.asideD (by omega)).asideD (by omega)).c0, ((x_d.asideD (by omega)).asideD (by omega)).c1, ((x_d.asideD (by omega)).asideD (by omega)).c2, ((x_d.asideD (by omega)).asideD (by omega)).c3, ((x_d.asideD (by omega)).asideD (by omega)).c4⟩) | (with_reducible exact ⟨(x_a.asideL (by omega)).c0, (x_a.asideL (by omega)).c1, (x_a.asideL (by omega)).c2, (x_a.asideL (by omega)).c3, (x_a.asideL (by omega)).c4, (x_d.asideL (by omega)).c0, (x_d.asideL (by omega)).c1, (x_d.asideL (by omega)).c2, (x_d.asideL (by omega)).c3, (x_d.asideL (by omega)).c4⟩) | (with_reducible exact ⟨((x_a.asideL (by omega)).asideL (by omega)).c0, ((x_a.asideL (by omega)).asideL (by omega)).c1, ((x_a.asideL (by omega)).asideL (by omega)).c2, ((x_a.asideL (by omega)).asideL (by omega)).c3, ((x_a.asideL (by omega)).asideL (by omega)).c4, ((x_d.asideL (by omega)).asideL (by omega)).c0, ((x_d.asideL (by omega)).asideL (by omega)).c1, ((x_d.asideL (by omega)).asideL (by omega)).c2, ((x_d.asideL (by omega)).asideL (by omega)).c3, ((x_d.asideL (by omega)).asideL (by omega)).c4⟩) | go_keep)
      (first | (go_at_call 13; (with_reducible refine (Right_any h.drw h2.drw (by omega) (by omega)).mono ?_); rintro e v2 ⟨rfl, hb1⟩; replace hb1 := undrew hb1; obtain ⟨x_a, x_d, h, h2, h3, h4, hb⟩ := mv7 hb1 x_a x_d h h2 h3 h4 hb; clear hb1; replace q_a := x_a.al; replace q_d := x_d.al; rw [HR.out]) | (go_at_call 13; (with_reducible refine (Right_any h3 h4 (by omega) (by omega)).mono ?_); rintro e v3 ⟨rfl, hb1⟩; obtain ⟨x_a, x_d, h, h2, h3, h4, hb⟩ := mv7 hb1 x_a x_d h h2 h3 h4 hb; clear hb1; replace q_a := x_a.al; replace q_d := x_d.al; rw [HS.out]) | (go_at_call 39; (with_reducible refine (low_any hq).mono ?_); rintro e v4 ⟨rfl, hb1⟩; obtain ⟨x_a, x_d, h, h2, h3, h4, hb⟩ := mv7 hb1 x_a x_d h h2 h3 h4 hb; clear hb1; replace q_a := x_a.al; replace q_d := x_d.al) | (go_at_call 40; (with_reducible refine (high_any hq2).mono ?_); rintro e v5 ⟨rfl, hb1⟩; obtain ⟨x_a, x_d, h, h2, h3, h4, hb⟩ := mv7 hb1 x_a x_d h h2 h3 h4 hb; clear hb1; replace q_a := x_a.al; replace q_d := x_d.al) | (go_at_call 38; (with_reducible refine (DCmp_any h h4 (by omega) (by omega)).mono ?_); rintro e v6 ⟨rfl, hb1⟩; obtain ⟨x_a, x_d, h, h2, h3, h4, hb⟩ := mv7 hb1 x_a x_d h h2 h3 h4 hb; clear hb1; replace q_a := x_a.al; replace q_d := x_d.al; rw [HC1.out]) | (go_at_call 39; (with_reducible refine (low_any hq2).mono ?_); rintro e v7 ⟨rfl, hb1⟩; obtain ⟨x_a, x_d, h, h2, h3, h4, hb⟩ := mv7 hb1 x_a x_d h h2 h3 h4 hb; clear hb1; replace q_a := x_a.al; replace q_d := x_d.al) | (go_at_call 40; (with_reducible refine (high_any hq).mono ?_); rintro e v8 ⟨rfl, hb1⟩; obtain ⟨x_a, x_d, h, h2, h3, h4, hb⟩ := mv7 hb1 x_a x_d h h2 h3 h4 hb; clear hb1; replace q_a := x_a.al; replace q_d := x_d.al) | (go_at_call 38; (with_reducible refine (DCmp_any h3 h2 (by omega) (by omega)).mono ?_); rintro e v9 ⟨rfl, hb1⟩; obtain ⟨x_a, x_d, h, h2, h3, h4, hb⟩ := mv7 hb1 x_a x_d h h2 h3 h4 hb; clear hb1; replace q_a := x_a.al; replace q_d := x_d.al; rw [HC2.out]))
     go_wp2
     go_ret
     first | exact ⟨qB_bool HF.out.symm, hb⟩ | exact ⟨qB_bool ((dec_no (p := C2 ≤ 0) (by omega)).trans HF.out.symm), hb⟩
   ·have HF : Hid (metB X Y q U V r = false) := Lib.hid (by unfold metB; exact dec_no (fun hc => d1 (i1.2 hc.2.2.1)))
    clear hr hs i1 i2
    go_enter Tryz.func14, Tryz.ntmps14
    go_wp2_with fail
    refine al2 fun v1 hb x_a x_d => ?_
    replace x_a := Lx.of x_a; replace x_d := Lx.of x_d
    obtain ⟨h, h2, h3, h4⟩ := mv4 hb h h2 h3 h4
    have q_a := x_a.al
    have q_d := x_d.al
    go_wp2_with fail
    go_region_with ((first | (go_at_call 13; (with_reducible refine (Right_any h.drw h2.drw (by omega) (by omega)).mono ?_); rintro e v2 ⟨rfl, hb1⟩; replace hb1 := undrew hb1; obtain ⟨x_a, x_d, h, h2, h3, h4, hb⟩ := mv7 hb1 x_a x_d h h2 h3 h4 hb; clear hb1; replace q_a := x_a.al; replace q_d := x_d.al; rw [HR.out]) | (go_at_call 13; (with_reducible refine (Right_any h3 h4 (by omega) (by omega)).mono ?_); rintro e v3 ⟨rfl, hb1⟩; obtain ⟨x_a, x_d, h, h2, h3, h4, hb⟩ := mv7 hb1 x_a x_d h h2 h3 h4 hb; clear hb1; replace q_a := x_a.al; replace q_d := x_d.al; rw [HS.out]) | (go_at_call 39; (with_reducible refine (low_any hq).mono ?_); rintro e v4 ⟨rfl, hb1⟩; obtain ⟨x_a, x_d, h, h2, h3, h4, hb⟩ := mv7 hb1 x_a x_d h h2 h3 h4 hb; clear hb1; replace q_a := x_a.al; replace q_d := x_d.al) | (go_at_call 40; (with_reducible refine (high_any hq2).mono ?_); rintro e v5 ⟨rfl, hb1⟩; obtain ⟨x_a, x_d, h, h2, h3, h4, hb⟩ := mv7 hb1 x_a x_d h h2 h3 h4 hb; clear hb1; replace q_a := x_a.al; replace q_d := x_d.al) | (go_at_call 38; (with_reducible refine (DCmp_any h h4 (by omega) (by omega)).mono ?_); rintro e v6 ⟨rfl, hb1⟩; obtain ⟨x_a, x_d, h, h2, h3, h4, hb⟩ := mv7 hb1 x_a x_d h h2 h3 h4 hb; clear hb1; replace q_a := x_a.al; replace q_d := x_d.al; rw [HC1.out])))
    all_goals
     go_wp2
     go_ret
     exact ⟨qB_bool HF.out.symm, hb⟩
  ·have HS := Lib.hid (rB_no hs)
   have HF : Hid (metB X Y q U V r = false) := Lib.hid (by unfold metB; exact dec_no (fun hc => hs hc.2.1))
   clear hr hs
   go_enter Tryz.func14, Tryz.ntmps14
   go_wp2_with fail
   refine al2 fun v1 hb x_a x_d => ?_
   replace x_a := Lx.of x_a; replace x_d := Lx.of x_d
   obtain ⟨h, h2, h3, h4⟩ := mv4 hb h h2 h3 h4
   have q_a := x_a.al
   have q_d := x_d.al
   go_wp2_with fail
   go_region_with ((first | (go_at_call 13; (with_reducible refine (Right_any h.drw h2.drw (by omega) (by omega)).mono ?_); rintro e v2 ⟨rfl, hb1⟩; replace hb1 := undrew hb1; obtain ⟨x_a, x_d, h, h2, h3, h4, hb⟩ := mv7 hb1 x_a x_d h h2 h3 h4 hb; clear hb1; replace q_a := x_a.al; replace q_d := x_d.al; rw [HR.out]) | (go_at_call 13; (with_reducible refine (Right_any h3 h4 (by omega) (by omega)).mono ?_); rintro e v3 ⟨rfl, hb1⟩; obtain ⟨x_a, x_d, h, h2, h3, h4, hb⟩ := mv7 hb1 x_a x_d h h2 h3 h4 hb; clear hb1; replace q_a := x_a.al; replace q_d := x_d.al; rw [HS.out])))
   all_goals
    go_wp2
    go_ret
    exact ⟨qB_bool HF.out.symm, hb⟩
 ·have HR := Lib.hid (rB_no hr)
  have HF : Hid (metB X Y q U V r = false) := Lib.hid (by unfold metB; exact dec_no (fun hc => hr hc.1))
  clear hr
  go_enter Tryz.func14, Tryz.ntmps14
  go_wp2_with fail
  refine al2 fun v1 hb x_a x_d => ?_
  replace x_a := Lx.of x_a; replace x_d := Lx.of x_d
  obtain ⟨h, h2, h3, h4⟩ := mv4 hb h h2 h3 h4
  have q_a := x_a.al
  have q_d := x_d.al
  go_wp2_with fail
  go_region_with ((first | (go_at_call 13; (with_reducible refine (Right_any h.drw h2.drw (by omega) (by omega)).mono ?_); rintro e v2 ⟨rfl, hb1⟩; replace hb1 := undrew hb1; obtain ⟨x_a, x_d, h, h2, h3, h4, hb⟩ := mv7 hb1 x_a x_d h h2 h3 h4 hb; clear hb1; replace q_a := x_a.al; replace q_d := x_d.al; rw [HR.out])))
  all_goals
   go_wp2
   go_ret
   exact ⟨qB_bool HF.out.symm, hb⟩
end Go.Proofs.YtjlbngjeekdfcaaGreatDoor
