/-
 ball: Has.
-/
import Derived.Test.YtdonaominffpnaaGreatDoorLpoint
import Derived.Test.YtdonaominffpnaaGreatDoorEbox
namespace Go.Proofs.YtdonaominffpnaaGreatDoor
variable {X Y q : Int}
set_option maxRecDepth 100000
set_option maxHeartbeats 4000000
set_option linter.unusedVariables false
open Go.RowKit
theorem c_q (h : 0 ≤ q ∧ q ≤ 2048) : cM X (-q) = X ∧ cE (-q) = -q := c_yes ⟨by omega, by omega⟩
theorem cmp_le {e f : Int} : sgnI (alP X e f - alQ Y e f) ≤ 0 ↔ vd (cM X e) (cE e) ≤ vd (cM Y f) (cE f) := by rw [cmp_vdc]; exact sgn_le
theorem Has_any {b b2 : Bool} {A A2 : Option Addr} {n c n2 c2 : Nat} {j j2 : Nat} {w : World} (h : Zr w b A n c X j) (h2 : Zr w b2 A2 n2 c2 Y j2) {b3 : Bool} {A3 : Option Addr} {n3 c3 : Nat} {M e : Int} {j3 : Nat} (h3 : Zr w b3 A3 n3 c3 M j3) (hj : j ≤ 100000) (hj2 : j2 ≤ 100000) (hj3 : j3 ≤ 100000) :
  Calls Tryz.prog 43 #[.agg #[.bool b, .slice A n c, .bool b2, .slice A2 n2 c2, .int .i64 q], .agg #[.bool b3, .slice A3 n3 c3, .int .i64 e]] w fun en w' => en = .returned (.bool (hasB X Y q M e)) ∧ Below w.heap.size w w' := by
 by_cases hr : 0 ≤ q ∧ q ≤ 2048 ∧ X ≤ Y
 ·have HR := Lib.hid (rB_yes hr)
  have hq : 0 ≤ q ∧ q ≤ 2048 := ⟨hr.1, hr.2.1⟩
  have i1 := cmp_le (X := X) (Y := M) (e := -q) (f := e)
  have i2 := cmp_le (X := M) (Y := Y) (e := e) (f := -q)
  rw [(c_q (X := X) hq).1, (c_q (X := X) hq).2] at i1
  rw [(c_q (X := Y) hq).1, (c_q (X := Y) hq).2] at i2
  obtain ⟨C1, hC1⟩ : ∃ C, sgnI (alP X (-q) e - alQ M (-q) e) = C := ⟨_, rfl⟩
  obtain ⟨C2, hC2⟩ : ∃ C, sgnI (alP M e (-q) - alQ Y e (-q)) = C := ⟨_, rfl⟩
  rw [hC1] at i1
  rw [hC2] at i2
  have HC1 := Lib.hid hC1; have HC2 := Lib.hid hC2; clear hC1 hC2
  by_cases d1 : C1 ≤ 0
  ·by_cases d2 : C2 ≤ 0
   ·have HF : Hid (hasB X Y q M e = true) := Lib.hid (by unfold hasB; exact decide_eq_true ⟨hr, i1.1 d1, i2.1 d2⟩)
    clear hr i1 i2
    go_enter Tryz.func43, Tryz.ntmps43
    go_wp2_with fail
    refine al2 fun v1 hb x_a x_d => ?_
    replace x_a := Lx.of x_a; replace x_d := Dx.of x_d
    obtain ⟨h, h2, h3⟩ := mv3 hb h h2 h3
    have q_a := x_a.al
    have q_d := x_d.al
    go_wp2_with fail
    go_region_held3 (fun w' => w'.cell? ⟨w.heap.size, 0, none⟩ = some (.bool b) ∧ w'.cell? ⟨w.heap.size, 1, none⟩ = some (.slice A n c) ∧ w'.cell? ⟨w.heap.size, 2, none⟩ = some (.bool b2) ∧ w'.cell? ⟨w.heap.size, 3, none⟩ = some (.slice A2 n2 c2) ∧ w'.cell? ⟨w.heap.size, 4, none⟩ = some (.int .i64 q) ∧ w'.cell? ⟨w.heap.size + 1, 0, none⟩ = some (.bool b3) ∧ w'.cell? ⟨w.heap.size + 1, 1, none⟩ = some (.slice A3 n3 c3) ∧ w'.cell? ⟨w.heap.size + 1, 2, none⟩ = some (.int .i64 e))
     (first | (with_reducible exact ⟨x_a.c0, x_a.c1, x_a.c2, x_a.c3, x_a.c4, x_d.c0, x_d.c1, x_d.c2⟩) | (with_reducible exact ⟨(x_a.aside (by omega)).c0, (x_a.aside (by omega)).c1, (x_a.aside (by omega)).c2, (x_a.aside (by omega)).c3, (x_a.aside (by omega)).c4, (x_d.aside (by omega)).c0, (x_d.aside (by omega)).c1, (x_d.aside (by omega)).c2⟩) | (with_reducible exact ⟨((x_a.aside (by omega)).aside (by omega)).c0, ((x_a.aside (by omega)).aside (by omega)).c1, ((x_a.aside (by omega)).aside (by omega)).c2, ((x_a.aside (by omega)).aside (by omega)).c3, ((x_a.aside (by omega)).aside (by omega)).c4, ((x_d.aside (by omega)).aside (by omega)).c0, ((x_d.aside (by omega)).aside (by omega)).c1, ((x_d.aside (by omega)).aside (by omega)).c2⟩) | (with_reducible exact ⟨(x_a.asideD (by omega)).c0, (x_a.asideD (by omega)).c1, (x_a.asideD (by omega)).c2, (x_a.asideD (by omega)).c3, (x_a.asideD (by omega)).c4, (x_d.asideD (by omega)).c0, (x_d.asideD (by omega)).c1, (x_d.asideD (by omega)).c2⟩) | (with_reducible exact ⟨((x_a.asideD (by omega)).asideD (by omega)).c0, ((x_a.asideD (by omega)).asideD (by omega)).c1, ((x_a.asideD (by omega)).asideD (by omega)).c2, ((x_a.asideD (by omega)).asideD (by omega)).c3, ((x_a.asideD (by omega)).asideD (by omega)).c4, ((x_d.asideD (by omega)).asideD (by omega)).c0, ((x_d.asideD (by omega)).asideD (by omega)).c1, ((x_d.asideD (by omega)).asideD (by omega)).c2⟩) | (with_reducible exact ⟨(x_a.asideL (by omega)).c0, (x_a.asideL (by omega)).c1, (x_a.asideL (by omega)).c2, (x_a.asideL (by omega)).c3, (x_a.asideL (by omega)).c4, (x_d.asideL (by omega)).c0, (x_d.asideL (by omega)).c1, (x_d.asideL (by omega)).c2⟩) | (with_reducible exact ⟨((x_a.asideL (by omega)).asideL (by omega)).c0, ((x_a.asideL (by omega)).asideL (by omega)).c1, ((x_a.asideL (by omega)).asideL (by omega)).c2, ((x_a.asideL (by omega)).asideL (by omega)).c3, ((x_a.asideL (by omega)).asideL (by omega)).c4, ((x_d.asideL (by omega)).asideL (by omega)).c0, ((x_d.asideL (by omega)).asideL (by omega)).c1, ((x_d.asideL (by omega)).asideL (by omega)).c2⟩) | go_keep)
     (first | (go_at_call 29; (with_reducible refine (Right_any h.drw h2.drw (by omega) (by omega)).mono ?_); rintro e v2 ⟨rfl, hb1⟩; replace hb1 := undrew hb1; obtain ⟨x_a, x_d, h, h2, h3, hb⟩ := mv6 hb1 x_a x_d h h2 h3 hb; clear hb1; replace q_a := x_a.al; replace q_d := x_d.al; rw [HR.out]) | (go_at_call 82; (with_reducible refine (low_any hq).mono ?_); rintro e v3 ⟨rfl, hb1⟩; obtain ⟨x_a, x_d, h, h2, h3, hb⟩ := mv6 hb1 x_a x_d h h2 h3 hb; clear hb1; replace q_a := x_a.al; replace q_d := x_d.al) | (go_at_call 81; (with_reducible refine (DCmp_any h h3 (by omega) (by omega)).mono ?_); rintro e v4 ⟨rfl, hb1⟩; obtain ⟨x_a, x_d, h, h2, h3, hb⟩ := mv6 hb1 x_a x_d h h2 h3 hb; clear hb1; replace q_a := x_a.al; replace q_d := x_d.al; rw [HC1.out]) | (go_at_call 83; (with_reducible refine (high_any hq).mono ?_); rintro e v5 ⟨rfl, hb1⟩; obtain ⟨x_a, x_d, h, h2, h3, hb⟩ := mv6 hb1 x_a x_d h h2 h3 hb; clear hb1; replace q_a := x_a.al; replace q_d := x_d.al) | (go_at_call 81; (with_reducible refine (DCmp_any h3 h2 (by omega) (by omega)).mono ?_); rintro e v6 ⟨rfl, hb1⟩; obtain ⟨x_a, x_d, h, h2, h3, hb⟩ := mv6 hb1 x_a x_d h h2 h3 hb; clear hb1; replace q_a := x_a.al; replace q_d := x_d.al; rw [HC2.out]))
    go_wp2
    go_ret
    exact ⟨qB_bool HF.out.symm, hb⟩
   ·have HF : Hid (hasB X Y q M e = false) := Lib.hid (by unfold hasB; exact dec_no (fun hc => d2 (i2.2 hc.2.2)))
    clear hr i1 i2
    go_enter Tryz.func43, Tryz.ntmps43
    go_wp2_with fail
    refine al2 fun v1 hb x_a x_d => ?_
    replace x_a := Lx.of x_a; replace x_d := Dx.of x_d
    obtain ⟨h, h2, h3⟩ := mv3 hb h h2 h3
    have q_a := x_a.al
    have q_d := x_d.al
    go_wp2_with fail
    go_region_held3 (fun w' => w'.cell? ⟨w.heap.size, 0, none⟩ = some (.bool b) ∧ w'.cell? ⟨w.heap.size, 1, none⟩ = some (.slice A n c) ∧ w'.cell? ⟨w.heap.size, 2, none⟩ = some (.bool b2) ∧ w'.cell? ⟨w.heap.size, 3, none⟩ = some (.slice A2 n2 c2) ∧ w'.cell? ⟨w.heap.size, 4, none⟩ = some (.int .i64 q) ∧ w'.cell? ⟨w.heap.size + 1, 0, none⟩ = some (.bool b3) ∧ w'.cell? ⟨w.heap.size + 1, 1, none⟩ = some (.slice A3 n3 c3) ∧ w'.cell? ⟨w.heap.size + 1, 2, none⟩ = some (.int .i64 e))
     (first | (with_reducible exact ⟨x_a.c0, x_a.c1, x_a.c2, x_a.c3, x_a.c4, x_d.c0, x_d.c1, x_d.c2⟩) | (with_reducible exact ⟨(x_a.aside (by omega)).c0, (x_a.aside (by omega)).c1, (x_a.aside (by omega)).c2, (x_a.aside (by omega)).c3, (x_a.aside (by omega)).c4, (x_d.aside (by omega)).c0, (x_d.aside (by omega)).c1, (x_d.aside (by omega)).c2⟩) | (with_reducible exact ⟨((x_a.aside (by omega)).aside (by omega)).c0, ((x_a.aside (by omega)).aside (by omega)).c1, ((x_a.aside (by omega)).aside (by omega)).c2, ((x_a.aside (by omega)).aside (by omega)).c3, ((x_a.aside (by omega)).aside (by omega)).c4, ((x_d.aside (by omega)).aside (by omega)).c0, ((x_d.aside (by omega)).aside (by omega)).c1, ((x_d.aside (by omega)).aside (by omega)).c2⟩) | (with_reducible exact ⟨(x_a.asideD (by omega)).c0, (x_a.asideD (by omega)).c1, (x_a.asideD (by omega)).c2, (x_a.asideD (by omega)).c3, (x_a.asideD (by omega)).c4, (x_d.asideD (by omega)).c0, (x_d.asideD (by omega)).c1, (x_d.asideD (by omega)).c2⟩) | (with_reducible exact ⟨((x_a.asideD (by omega)).asideD (by omega)).c0, ((x_a.asideD (by omega)).asideD (by omega)).c1, ((x_a.asideD (by omega)).asideD (by omega)).c2, ((x_a.asideD (by omega)).asideD (by omega)).c3, ((x_a.asideD (by omega)).asideD (by omega)).c4, ((x_d.asideD (by omega)).asideD (by omega)).c0, ((x_d.asideD (by omega)).asideD (by omega)).c1, ((x_d.asideD (by omega)).asideD (by omega)).c2⟩) | (with_reducible exact ⟨(x_a.asideL (by omega)).c0, (x_a.asideL (by omega)).c1, (x_a.asideL (by omega)).c2, (x_a.asideL (by omega)).c3, (x_a.asideL (by omega)).c4, (x_d.asideL (by omega)).c0, (x_d.asideL (by omega)).c1, (x_d.asideL (by omega)).c2⟩) | (with_reducible exact ⟨((x_a.asideL (by omega)).asideL (by omega)).c0, ((x_a.asideL (by omega)).asideL (by omega)).c1, ((x_a.asideL (by omega)).asideL (by omega)).c2, ((x_a.asideL (by omega)).asideL (by omega)).c3, ((x_a.asideL (by omega)).asideL (by omega)).c4, ((x_d.asideL (by omega)).asideL (by omega)).c0, ((x_d.asideL (by omega)).asideL (by omega)).c1, ((x_d.asideL (by omega)).asideL (by omega)).c2⟩) | go_keep)
     (first | (go_at_call 29; (with_reducible refine (Right_any h.drw h2.drw (by omega) (by omega)).mono ?_); rintro e v2 ⟨rfl, hb1⟩; replace hb1 := undrew hb1; obtain ⟨x_a, x_d, h, h2, h3, hb⟩ := mv6 hb1 x_a x_d h h2 h3 hb; clear hb1; replace q_a := x_a.al; replace q_d := x_d.al; rw [HR.out]) | (go_at_call 82; (with_reducible refine (low_any hq).mono ?_); rintro e v3 ⟨rfl, hb1⟩; obtain ⟨x_a, x_d, h, h2, h3, hb⟩ := mv6 hb1 x_a x_d h h2 h3 hb; clear hb1; replace q_a := x_a.al; replace q_d := x_d.al) | (go_at_call 81; (with_reducible refine (DCmp_any h h3 (by omega) (by omega)).mono ?_); rintro e v4 ⟨rfl, hb1⟩; obtain ⟨x_a, x_d, h, h2, h3, hb⟩ := mv6 hb1 x_a x_d h h2 h3 hb; clear hb1; replace q_a := x_a.al; replace q_d := x_d.al; rw [HC1.out]) | (go_at_call 83; (with_reducible refine (high_any hq).mono ?_); rintro e v5 ⟨rfl, hb1⟩; obtain ⟨x_a, x_d, h, h2, h3, hb⟩ := mv6 hb1 x_a x_d h h2 h3 hb; clear hb1; replace q_a := x_a.al; replace q_d := x_d.al) | (go_at_call 81; (with_reducible refine (DCmp_any h3 h2 (by omega) (by omega)).mono ?_); rintro e v6 ⟨rfl, hb1⟩; obtain ⟨x_a, x_d, h, h2, h3, hb⟩ := mv6 hb1 x_a x_d h h2 h3 hb; clear hb1; replace q_a := x_a.al; replace q_d := x_d.al; rw [HC2.out]))
    go_wp2
    go_ret
    first | exact ⟨qB_bool HF.out.symm, hb⟩ | exact ⟨qB_bool ((dec_no (p := C2 ≤ 0) (by omega)).trans HF.out.symm), hb⟩
  ·have HF : Hid (hasB X Y q M e = false) := Lib.hid (by unfold hasB; exact dec_no (fun hc => d1 (i1.2 hc.2.1)))
   clear hr i1 i2
   go_enter Tryz.func43, Tryz.ntmps43
   go_wp2_with fail
   refine al2 fun v1 hb x_a x_d => ?_
   replace x_a := Lx.of x_a; replace x_d := Dx.of x_d
   obtain ⟨h, h2, h3⟩ := mv3 hb h h2 h3
   have q_a := x_a.al
   have q_d := x_d.al
   go_wp2_with fail
   go_region_with ((first | (go_at_call 29; (with_reducible refine (Right_any h.drw h2.drw (by omega) (by omega)).mono ?_); rintro e v2 ⟨rfl, hb1⟩; replace hb1 := undrew hb1; obtain ⟨x_a, x_d, h, h2, h3, hb⟩ := mv6 hb1 x_a x_d h h2 h3 hb; clear hb1; replace q_a := x_a.al; replace q_d := x_d.al; rw [HR.out]) | (go_at_call 82; (with_reducible refine (low_any hq).mono ?_); rintro e v3 ⟨rfl, hb1⟩; obtain ⟨x_a, x_d, h, h2, h3, hb⟩ := mv6 hb1 x_a x_d h h2 h3 hb; clear hb1; replace q_a := x_a.al; replace q_d := x_d.al) | (go_at_call 81; (with_reducible refine (DCmp_any h h3 (by omega) (by omega)).mono ?_); rintro e v4 ⟨rfl, hb1⟩; obtain ⟨x_a, x_d, h, h2, h3, hb⟩ := mv6 hb1 x_a x_d h h2 h3 hb; clear hb1; replace q_a := x_a.al; replace q_d := x_d.al; rw [HC1.out])))
   all_goals
    go_wp2
    go_ret
    exact ⟨qB_bool HF.out.symm, hb⟩
 ·have HR := Lib.hid (rB_no hr)
  have HF : Hid (hasB X Y q M e = false) := Lib.hid (by unfold hasB; exact dec_no (fun hc => hr hc.1))
  clear hr
  go_enter Tryz.func43, Tryz.ntmps43
  go_wp2_with fail
  refine al2 fun v1 hb x_a x_d => ?_
  replace x_a := Lx.of x_a; replace x_d := Dx.of x_d
  obtain ⟨h, h2, h3⟩ := mv3 hb h h2 h3
  have q_a := x_a.al
  have q_d := x_d.al
  go_wp2_with fail
  go_region_with ((first | (go_at_call 29; (with_reducible refine (Right_any h.drw h2.drw (by omega) (by omega)).mono ?_); rintro e v2 ⟨rfl, hb1⟩; replace hb1 := undrew hb1; obtain ⟨x_a, x_d, h, h2, h3, hb⟩ := mv6 hb1 x_a x_d h h2 h3 hb; clear hb1; replace q_a := x_a.al; replace q_d := x_d.al; rw [HR.out])))
  all_goals
   go_wp2
   go_ret
   exact ⟨qB_bool HF.out.symm, hb⟩
end Go.Proofs.YtdonaominffpnaaGreatDoor
