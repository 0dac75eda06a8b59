/-
  The law BitsValues, as a call.
-/
import Derived.Test.YthbodamihiddhaaDoorBshown
import Derived.Test.YthbodamihiddhaaDoorBref
namespace Go.Proofs.YthbodamihiddhaaDoor
open Go.RowKit
set_option linter.unusedVariables false

theorem Dequal_nil {w : World} : Calls Tryd.prog 13 #[.agg #[.bool false, .slice none 0 0, .int .i64 0], .agg #[.bool false, .slice none 0 0, .int .i64 0]] w fun en w' => en = .returned (.bool true) ∧ Below w.heap.size w w' :=
  Dequal_any (X := 0) (Y := 0) (e := 0) (f := 0) (Zn.nil0 w 1) (Zn.nil0 w 1) rfl rfl
theorem lm_nat {x : Int} (h : Lm x) : ∃ b : Nat, x = b ∧ b < 18446744073709551616 := by
  unfold Lm at h; rw [Wd_eq] at h
  exact ⟨x.toNat, by omega, by omega⟩

set_option maxRecDepth 100000 in
set_option maxHeartbeats 8000000 in
theorem BitsValues_any {x : Int} {w : World} (hT : Tab w) (hx : Lm x) :
    Calls Tryd.prog 3 #[.int .u64 x] w fun e w' => e = .returned (.bool true) ∧ Below w.heap.size w w' := by
  obtain ⟨b, rfl, hl⟩ := lm_nat hx
  clear hx
  by_cases hf : fdN b = 2047
  · have hn : nmN b = false := by unfold nmN; simp [hf]
    have HN := Lib.hid hn; clear hn
    have hb := Below.refl w.heap.size w
    go_enter Tryd.func3, Tryd.ntmps3
    go_wp2_with fail
    with_reducible refine (Bshown_any hT).mono ?_
    rintro e v1 ⟨rfl, hb1⟩
    replace hT := hT.keep hb1
    replace hb := bthen hb hb1
    clear hb1
    go_wp2_with fail
    with_reducible refine (Parts_any _ b rfl hl).mono ?_
    rintro e v2 ⟨rfl, hb1⟩
    replace hT := hT.keep hb1
    replace hb := bthen hb hb1
    clear hb1
    go_wp2_with fail
    with_reducible refine (RParts_any _ b rfl hl).mono ?_
    rintro e v3 ⟨rfl, hb1⟩
    replace hT := hT.keep hb1
    replace hb := bthen hb hb1
    clear hb1
    go_wp2_with fail
    with_reducible refine (Value_none _ b rfl hl hf).mono ?_
    rintro e v4 ⟨rfl, hb1⟩
    replace hT := hT.keep hb1
    replace hb := bthen hb hb1
    clear hb1
    go_wp2_with fail
    have hb1 := below_alloc v4 (.cells #[.bool false, .slice none 0 0, .int .i64 0] 30)
    have x_d := Dx.new v4 false none 0 0 0
    have e_d : w.heap.size ≤ v4.heap.size := hb.size
    replace hT := hT.keep hb1
    replace hb := bthen hb hb1
    clear hb1
    generalize v4.alloc (.cells #[.bool false, .slice none 0 0, .int .i64 0] 30) = v5 at *
    have q_d0 := x_d.c0; have q_d1 := x_d.c1; have f_d0 := x_d.fr 0; have f_d1 := x_d.fr 1; have q_d2 := x_d.c2; have f_d2 := x_d.fr 2
    skip
    with_reducible refine (RValue_none _ b rfl hl hf).mono ?_
    rintro e v6 ⟨rfl, hb1⟩
    replace x_d := x_d.keep hb1
    replace hT := hT.keep hb1
    replace hb := bthen hb hb1
    clear hb1
    replace q_d0 := x_d.c0; replace q_d1 := x_d.c1; replace f_d0 := x_d.fr 0; replace f_d1 := x_d.fr 1; replace q_d2 := x_d.c2; replace f_d2 := x_d.fr 2
    have y_d := (x_d.alloc (.cells #[.bool false, .slice none 0 0, .int .i64 0] 30)); have yq_d0 := y_d.c0; have yq_d1 := y_d.c1; have yq_d2 := y_d.c2
    go_wp2_with fail
    clear y_d yq_d0 yq_d1 yq_d2
    have hb1 := below_alloc v6 (.cells #[.bool false, .slice none 0 0, .int .i64 0] 30)
    have l_d_c := x_d.lt
    have x_c := Dx.new v6 false none 0 0 0
    have e_c : w.heap.size ≤ v6.heap.size := hb.size
    replace x_d := x_d.keep hb1
    replace hT := hT.keep hb1
    replace hb := bthen hb hb1
    clear hb1
    replace q_d0 := x_d.c0; replace q_d1 := x_d.c1; replace f_d0 := x_d.fr 0; replace f_d1 := x_d.fr 1; replace q_d2 := x_d.c2; replace f_d2 := x_d.fr 2
    clear q_d0 q_d1 f_d0 f_d1 q_d2 f_d2
    generalize v6.alloc (.cells #[.bool false, .slice none 0 0, .int .i64 0] 30) = v7 at *
    have q_d0 := x_d.c0; have q_d1 := x_d.c1; have f_d0 := x_d.fr 0; have f_d1 := x_d.fr 1; have q_d2 := x_d.c2; have f_d2 := x_d.fr 2
    have q_c0 := x_c.c0; have q_c1 := x_c.c1; have f_c0 := x_c.fr 0; have f_c1 := x_c.fr 1; have q_c2 := x_c.c2; have f_c2 := x_c.fr 2
    skip
    with_reducible refine (Dequal_nil).mono ?_
    rintro e v8 ⟨rfl, hb1⟩
    replace x_d := x_d.keep hb1
    replace x_c := x_c.keep hb1
    replace hT := hT.keep hb1
    replace hb := bthen hb hb1
    clear hb1
    replace q_d0 := x_d.c0; replace q_d1 := x_d.c1; replace f_d0 := x_d.fr 0; replace f_d1 := x_d.fr 1; replace q_d2 := x_d.c2; replace f_d2 := x_d.fr 2
    replace q_c0 := x_c.c0; replace q_c1 := x_c.c1; replace f_c0 := x_c.fr 0; replace f_c1 := x_c.fr 1; replace q_c2 := x_c.c2; replace f_c2 := x_c.fr 2
    go_wp2_with fail
    with_reducible refine (Binade_no _ b rfl hl HN.out).mono ?_
    rintro e v9 ⟨rfl, hb1⟩
    replace x_d := x_d.keep hb1
    replace x_c := x_c.keep hb1
    replace hT := hT.keep hb1
    replace hb := bthen hb hb1
    clear hb1
    replace q_d0 := x_d.c0; replace q_d1 := x_d.c1; replace f_d0 := x_d.fr 0; replace f_d1 := x_d.fr 1; replace q_d2 := x_d.c2; replace f_d2 := x_d.fr 2
    replace q_c0 := x_c.c0; replace q_c1 := x_c.c1; replace f_c0 := x_c.fr 0; replace f_c1 := x_c.fr 1; replace q_c2 := x_c.c2; replace f_c2 := x_c.fr 2
    go_wp2_with fail
    with_reducible refine (RBinade_no _ b rfl hl HN.out).mono ?_
    rintro e v10 ⟨rfl, hb1⟩
    replace x_d := x_d.keep hb1
    replace x_c := x_c.keep hb1
    replace hT := hT.keep hb1
    replace hb := bthen hb hb1
    clear hb1
    replace q_d0 := x_d.c0; replace q_d1 := x_d.c1; replace f_d0 := x_d.fr 0; replace f_d1 := x_d.fr 1; replace q_d2 := x_d.c2; replace f_d2 := x_d.fr 2
    replace q_c0 := x_c.c0; replace q_c1 := x_c.c1; replace f_c0 := x_c.fr 0; replace f_c1 := x_c.fr 1; replace q_c2 := x_c.c2; replace f_c2 := x_c.fr 2
    go_wp2_with fail
    with_reducible refine (Normal_any _ b rfl hl).mono ?_
    rintro e v11 ⟨rfl, hb1⟩
    replace x_d := x_d.keep hb1
    replace x_c := x_c.keep hb1
    replace hT := hT.keep hb1
    replace hb := bthen hb hb1
    clear hb1
    replace q_d0 := x_d.c0; replace q_d1 := x_d.c1; replace f_d0 := x_d.fr 0; replace f_d1 := x_d.fr 1; replace q_d2 := x_d.c2; replace f_d2 := x_d.fr 2
    replace q_c0 := x_c.c0; replace q_c1 := x_c.c1; replace f_c0 := x_c.fr 0; replace f_c1 := x_c.fr 1; replace q_c2 := x_c.c2; replace f_c2 := x_c.fr 2
    rw [HN.out]
    go_wp2_with fail
    with_reducible refine (RNormal_any _ b rfl hl).mono ?_
    rintro e v12 ⟨rfl, hb1⟩
    replace x_d := x_d.keep hb1
    replace x_c := x_c.keep hb1
    replace hT := hT.keep hb1
    replace hb := bthen hb hb1
    clear hb1
    replace q_d0 := x_d.c0; replace q_d1 := x_d.c1; replace f_d0 := x_d.fr 0; replace f_d1 := x_d.fr 1; replace q_d2 := x_d.c2; replace f_d2 := x_d.fr 2
    replace q_c0 := x_c.c0; replace q_c1 := x_c.c1; replace f_c0 := x_c.fr 0; replace f_c1 := x_c.fr 1; replace q_c2 := x_c.c2; replace f_c2 := x_c.fr 2
    rw [HN.out]
    go_wp2
    go_ret
    exact ⟨rfl, hb⟩
  obtain ⟨Q, hQ⟩ : ∃ Q, od (zi (sgN b) (mnN b)) = Q := ⟨_, rfl⟩
  obtain ⟨E, hE⟩ : ∃ E, nE (zi (sgN b) (mnN b)) (exN b) = E := ⟨_, rfl⟩
  have HQ := Lib.hid (And.intro hQ hE); clear hQ hE
  cases hn : nmN b
  · have HN := Lib.hid hn; clear hn
    have hb := Below.refl w.heap.size w
    go_enter Tryd.func3, Tryd.ntmps3
    go_wp2_with fail
    with_reducible refine (Bshown_any hT).mono ?_
    rintro e v1 ⟨rfl, hb1⟩
    replace hT := hT.keep hb1
    replace hb := bthen hb hb1
    clear hb1
    go_wp2_with fail
    with_reducible refine (Parts_any _ b rfl hl).mono ?_
    rintro e v2 ⟨rfl, hb1⟩
    replace hT := hT.keep hb1
    replace hb := bthen hb hb1
    clear hb1
    go_wp2_with fail
    with_reducible refine (RParts_any _ b rfl hl).mono ?_
    rintro e v3 ⟨rfl, hb1⟩
    replace hT := hT.keep hb1
    replace hb := bthen hb hb1
    clear hb1
    go_wp2_with fail
    with_reducible refine (Value_any _ b rfl hl hT hf).mono ?_
    rintro e v4 ⟨A1, n1, c1, rfl, z_d, hb1⟩
    replace hT := hT.keep hb1
    replace hb := bthen hb hb1
    clear hb1
    rw [HQ.out.1] at z_d
    rw [HQ.out.1, HQ.out.2]
    go_wp2_with fail
    have hb1 := below_alloc v4 (.cells #[.bool (ngB Q), .slice A1 n1 c1, .int .i64 E] 30)
    have x_d := Dx.new v4 (ngB Q) A1 n1 c1 E
    have e_d : w.heap.size ≤ v4.heap.size := hb.size
    replace hT := hT.keep hb1
    replace z_d := z_d.keep hb1
    replace hb := bthen hb hb1
    clear hb1
    generalize v4.alloc (.cells #[.bool (ngB Q), .slice A1 n1 c1, .int .i64 E] 30) = v5 at *
    have q_d0 := x_d.c0; have q_d1 := x_d.c1; have f_d0 := x_d.fr 0; have f_d1 := x_d.fr 1; have q_d2 := x_d.c2; have f_d2 := x_d.fr 2
    skip
    with_reducible refine (RValue_any _ b rfl hl hf).mono ?_
    rintro e v6 ⟨A2, n2, c2, rfl, z_c, hb1⟩
    replace x_d := x_d.keep hb1
    replace hT := hT.keep hb1
    replace z_d := z_d.keep hb1
    replace hb := bthen hb hb1
    clear hb1
    replace q_d0 := x_d.c0; replace q_d1 := x_d.c1; replace f_d0 := x_d.fr 0; replace f_d1 := x_d.fr 1; replace q_d2 := x_d.c2; replace f_d2 := x_d.fr 2
    rw [HQ.out.1] at z_c
    rw [HQ.out.1, HQ.out.2]
    have y_d := (x_d.alloc (.cells #[.bool (ngB Q), .slice A2 n2 c2, .int .i64 E] 30)); have yq_d0 := y_d.c0; have yq_d1 := y_d.c1; have yq_d2 := y_d.c2
    go_wp2_with fail
    clear y_d yq_d0 yq_d1 yq_d2
    have hb1 := below_alloc v6 (.cells #[.bool (ngB Q), .slice A2 n2 c2, .int .i64 E] 30)
    have l_d_c := x_d.lt
    have x_c := Dx.new v6 (ngB Q) A2 n2 c2 E
    have e_c : w.heap.size ≤ v6.heap.size := hb.size
    replace x_d := x_d.keep hb1
    replace hT := hT.keep hb1
    replace z_d := z_d.keep hb1
    replace z_c := z_c.keep hb1
    replace hb := bthen hb hb1
    clear hb1
    replace q_d0 := x_d.c0; replace q_d1 := x_d.c1; replace f_d0 := x_d.fr 0; replace f_d1 := x_d.fr 1; replace q_d2 := x_d.c2; replace f_d2 := x_d.fr 2
    clear q_d0 q_d1 f_d0 f_d1 q_d2 f_d2
    generalize v6.alloc (.cells #[.bool (ngB Q), .slice A2 n2 c2, .int .i64 E] 30) = v7 at *
    have q_d0 := x_d.c0; have q_d1 := x_d.c1; have f_d0 := x_d.fr 0; have f_d1 := x_d.fr 1; have q_d2 := x_d.c2; have f_d2 := x_d.fr 2
    have q_c0 := x_c.c0; have q_c1 := x_c.c1; have f_c0 := x_c.fr 0; have f_c1 := x_c.fr 1; have q_c2 := x_c.c2; have f_c2 := x_c.fr 2
    skip
    with_reducible refine (Dequal_any z_d z_c rfl rfl).mono ?_
    rintro e v8 ⟨rfl, hb1⟩
    replace x_d := x_d.keep hb1
    replace x_c := x_c.keep hb1
    replace hT := hT.keep hb1
    replace z_d := z_d.keep hb1
    replace z_c := z_c.keep hb1
    replace hb := bthen hb hb1
    clear hb1
    replace q_d0 := x_d.c0; replace q_d1 := x_d.c1; replace f_d0 := x_d.fr 0; replace f_d1 := x_d.fr 1; replace q_d2 := x_d.c2; replace f_d2 := x_d.fr 2
    replace q_c0 := x_c.c0; replace q_c1 := x_c.c1; replace f_c0 := x_c.fr 0; replace f_c1 := x_c.fr 1; replace q_c2 := x_c.c2; replace f_c2 := x_c.fr 2
    go_wp2_with fail
    with_reducible refine (Binade_no _ b rfl hl HN.out).mono ?_
    rintro e v9 ⟨rfl, hb1⟩
    replace x_d := x_d.keep hb1
    replace x_c := x_c.keep hb1
    replace hT := hT.keep hb1
    replace z_d := z_d.keep hb1
    replace z_c := z_c.keep hb1
    replace hb := bthen hb hb1
    clear hb1
    replace q_d0 := x_d.c0; replace q_d1 := x_d.c1; replace f_d0 := x_d.fr 0; replace f_d1 := x_d.fr 1; replace q_d2 := x_d.c2; replace f_d2 := x_d.fr 2
    replace q_c0 := x_c.c0; replace q_c1 := x_c.c1; replace f_c0 := x_c.fr 0; replace f_c1 := x_c.fr 1; replace q_c2 := x_c.c2; replace f_c2 := x_c.fr 2
    go_wp2_with fail
    with_reducible refine (RBinade_no _ b rfl hl HN.out).mono ?_
    rintro e v10 ⟨rfl, hb1⟩
    replace x_d := x_d.keep hb1
    replace x_c := x_c.keep hb1
    replace hT := hT.keep hb1
    replace z_d := z_d.keep hb1
    replace z_c := z_c.keep hb1
    replace hb := bthen hb hb1
    clear hb1
    replace q_d0 := x_d.c0; replace q_d1 := x_d.c1; replace f_d0 := x_d.fr 0; replace f_d1 := x_d.fr 1; replace q_d2 := x_d.c2; replace f_d2 := x_d.fr 2
    replace q_c0 := x_c.c0; replace q_c1 := x_c.c1; replace f_c0 := x_c.fr 0; replace f_c1 := x_c.fr 1; replace q_c2 := x_c.c2; replace f_c2 := x_c.fr 2
    go_wp2_with fail
    with_reducible refine (Normal_any _ b rfl hl).mono ?_
    rintro e v11 ⟨rfl, hb1⟩
    replace x_d := x_d.keep hb1
    replace x_c := x_c.keep hb1
    replace hT := hT.keep hb1
    replace z_d := z_d.keep hb1
    replace z_c := z_c.keep hb1
    replace hb := bthen hb hb1
    clear hb1
    replace q_d0 := x_d.c0; replace q_d1 := x_d.c1; replace f_d0 := x_d.fr 0; replace f_d1 := x_d.fr 1; replace q_d2 := x_d.c2; replace f_d2 := x_d.fr 2
    replace q_c0 := x_c.c0; replace q_c1 := x_c.c1; replace f_c0 := x_c.fr 0; replace f_c1 := x_c.fr 1; replace q_c2 := x_c.c2; replace f_c2 := x_c.fr 2
    rw [HN.out]
    go_wp2_with fail
    with_reducible refine (RNormal_any _ b rfl hl).mono ?_
    rintro e v12 ⟨rfl, hb1⟩
    replace x_d := x_d.keep hb1
    replace x_c := x_c.keep hb1
    replace hT := hT.keep hb1
    replace z_d := z_d.keep hb1
    replace z_c := z_c.keep hb1
    replace hb := bthen hb hb1
    clear hb1
    replace q_d0 := x_d.c0; replace q_d1 := x_d.c1; replace f_d0 := x_d.fr 0; replace f_d1 := x_d.fr 1; replace q_d2 := x_d.c2; replace f_d2 := x_d.fr 2
    replace q_c0 := x_c.c0; replace q_c1 := x_c.c1; replace f_c0 := x_c.fr 0; replace f_c1 := x_c.fr 1; replace q_c2 := x_c.c2; replace f_c2 := x_c.fr 2
    rw [HN.out]
    go_wp2
    go_ret
    exact ⟨rfl, hb⟩
  · have HN := Lib.hid hn; clear hn
    have hb := Below.refl w.heap.size w
    go_enter Tryd.func3, Tryd.ntmps3
    go_wp2_with fail
    with_reducible refine (Bshown_any hT).mono ?_
    rintro e v1 ⟨rfl, hb1⟩
    replace hT := hT.keep hb1
    replace hb := bthen hb hb1
    clear hb1
    go_wp2_with fail
    with_reducible refine (Parts_any _ b rfl hl).mono ?_
    rintro e v2 ⟨rfl, hb1⟩
    replace hT := hT.keep hb1
    replace hb := bthen hb hb1
    clear hb1
    go_wp2_with fail
    with_reducible refine (RParts_any _ b rfl hl).mono ?_
    rintro e v3 ⟨rfl, hb1⟩
    replace hT := hT.keep hb1
    replace hb := bthen hb hb1
    clear hb1
    go_wp2_with fail
    with_reducible refine (Value_any _ b rfl hl hT hf).mono ?_
    rintro e v4 ⟨A1, n1, c1, rfl, z_d, hb1⟩
    replace hT := hT.keep hb1
    replace hb := bthen hb hb1
    clear hb1
    rw [HQ.out.1] at z_d
    rw [HQ.out.1, HQ.out.2]
    go_wp2_with fail
    have hb1 := below_alloc v4 (.cells #[.bool (ngB Q), .slice A1 n1 c1, .int .i64 E] 30)
    have x_d := Dx.new v4 (ngB Q) A1 n1 c1 E
    have e_d : w.heap.size ≤ v4.heap.size := hb.size
    replace hT := hT.keep hb1
    replace z_d := z_d.keep hb1
    replace hb := bthen hb hb1
    clear hb1
    generalize v4.alloc (.cells #[.bool (ngB Q), .slice A1 n1 c1, .int .i64 E] 30) = v5 at *
    have q_d0 := x_d.c0; have q_d1 := x_d.c1; have f_d0 := x_d.fr 0; have f_d1 := x_d.fr 1; have q_d2 := x_d.c2; have f_d2 := x_d.fr 2
    skip
    with_reducible refine (RValue_any _ b rfl hl hf).mono ?_
    rintro e v6 ⟨A2, n2, c2, rfl, z_c, hb1⟩
    replace x_d := x_d.keep hb1
    replace hT := hT.keep hb1
    replace z_d := z_d.keep hb1
    replace hb := bthen hb hb1
    clear hb1
    replace q_d0 := x_d.c0; replace q_d1 := x_d.c1; replace f_d0 := x_d.fr 0; replace f_d1 := x_d.fr 1; replace q_d2 := x_d.c2; replace f_d2 := x_d.fr 2
    rw [HQ.out.1] at z_c
    rw [HQ.out.1, HQ.out.2]
    have y_d := (x_d.alloc (.cells #[.bool (ngB Q), .slice A2 n2 c2, .int .i64 E] 30)); have yq_d0 := y_d.c0; have yq_d1 := y_d.c1; have yq_d2 := y_d.c2
    go_wp2_with fail
    clear y_d yq_d0 yq_d1 yq_d2
    have hb1 := below_alloc v6 (.cells #[.bool (ngB Q), .slice A2 n2 c2, .int .i64 E] 30)
    have l_d_c := x_d.lt
    have x_c := Dx.new v6 (ngB Q) A2 n2 c2 E
    have e_c : w.heap.size ≤ v6.heap.size := hb.size
    replace x_d := x_d.keep hb1
    replace hT := hT.keep hb1
    replace z_d := z_d.keep hb1
    replace z_c := z_c.keep hb1
    replace hb := bthen hb hb1
    clear hb1
    replace q_d0 := x_d.c0; replace q_d1 := x_d.c1; replace f_d0 := x_d.fr 0; replace f_d1 := x_d.fr 1; replace q_d2 := x_d.c2; replace f_d2 := x_d.fr 2
    clear q_d0 q_d1 f_d0 f_d1 q_d2 f_d2
    generalize v6.alloc (.cells #[.bool (ngB Q), .slice A2 n2 c2, .int .i64 E] 30) = v7 at *
    have q_d0 := x_d.c0; have q_d1 := x_d.c1; have f_d0 := x_d.fr 0; have f_d1 := x_d.fr 1; have q_d2 := x_d.c2; have f_d2 := x_d.fr 2
    have q_c0 := x_c.c0; have q_c1 := x_c.c1; have f_c0 := x_c.fr 0; have f_c1 := x_c.fr 1; have q_c2 := x_c.c2; have f_c2 := x_c.fr 2
    skip
    with_reducible refine (Dequal_any z_d z_c rfl rfl).mono ?_
    rintro e v8 ⟨rfl, hb1⟩
    replace x_d := x_d.keep hb1
    replace x_c := x_c.keep hb1
    replace hT := hT.keep hb1
    replace z_d := z_d.keep hb1
    replace z_c := z_c.keep hb1
    replace hb := bthen hb hb1
    clear hb1
    replace q_d0 := x_d.c0; replace q_d1 := x_d.c1; replace f_d0 := x_d.fr 0; replace f_d1 := x_d.fr 1; replace q_d2 := x_d.c2; replace f_d2 := x_d.fr 2
    replace q_c0 := x_c.c0; replace q_c1 := x_c.c1; replace f_c0 := x_c.fr 0; replace f_c1 := x_c.fr 1; replace q_c2 := x_c.c2; replace f_c2 := x_c.fr 2
    go_wp2_with fail
    with_reducible refine (Binade_yes _ b rfl hl HN.out).mono ?_
    rintro e v9 ⟨rfl, hb1⟩
    replace x_d := x_d.keep hb1
    replace x_c := x_c.keep hb1
    replace hT := hT.keep hb1
    replace z_d := z_d.keep hb1
    replace z_c := z_c.keep hb1
    replace hb := bthen hb hb1
    clear hb1
    replace q_d0 := x_d.c0; replace q_d1 := x_d.c1; replace f_d0 := x_d.fr 0; replace f_d1 := x_d.fr 1; replace q_d2 := x_d.c2; replace f_d2 := x_d.fr 2
    replace q_c0 := x_c.c0; replace q_c1 := x_c.c1; replace f_c0 := x_c.fr 0; replace f_c1 := x_c.fr 1; replace q_c2 := x_c.c2; replace f_c2 := x_c.fr 2
    go_wp2_with fail
    with_reducible refine (RBinade_yes _ b rfl hl HN.out).mono ?_
    rintro e v10 ⟨rfl, hb1⟩
    replace x_d := x_d.keep hb1
    replace x_c := x_c.keep hb1
    replace hT := hT.keep hb1
    replace z_d := z_d.keep hb1
    replace z_c := z_c.keep hb1
    replace hb := bthen hb hb1
    clear hb1
    replace q_d0 := x_d.c0; replace q_d1 := x_d.c1; replace f_d0 := x_d.fr 0; replace f_d1 := x_d.fr 1; replace q_d2 := x_d.c2; replace f_d2 := x_d.fr 2
    replace q_c0 := x_c.c0; replace q_c1 := x_c.c1; replace f_c0 := x_c.fr 0; replace f_c1 := x_c.fr 1; replace q_c2 := x_c.c2; replace f_c2 := x_c.fr 2
    go_wp2_with fail
    with_reducible refine (Normal_any _ b rfl hl).mono ?_
    rintro e v11 ⟨rfl, hb1⟩
    replace x_d := x_d.keep hb1
    replace x_c := x_c.keep hb1
    replace hT := hT.keep hb1
    replace z_d := z_d.keep hb1
    replace z_c := z_c.keep hb1
    replace hb := bthen hb hb1
    clear hb1
    replace q_d0 := x_d.c0; replace q_d1 := x_d.c1; replace f_d0 := x_d.fr 0; replace f_d1 := x_d.fr 1; replace q_d2 := x_d.c2; replace f_d2 := x_d.fr 2
    replace q_c0 := x_c.c0; replace q_c1 := x_c.c1; replace f_c0 := x_c.fr 0; replace f_c1 := x_c.fr 1; replace q_c2 := x_c.c2; replace f_c2 := x_c.fr 2
    rw [HN.out]
    go_wp2_with fail
    with_reducible refine (RNormal_any _ b rfl hl).mono ?_
    rintro e v12 ⟨rfl, hb1⟩
    replace x_d := x_d.keep hb1
    replace x_c := x_c.keep hb1
    replace hT := hT.keep hb1
    replace z_d := z_d.keep hb1
    replace z_c := z_c.keep hb1
    replace hb := bthen hb hb1
    clear hb1
    replace q_d0 := x_d.c0; replace q_d1 := x_d.c1; replace f_d0 := x_d.fr 0; replace f_d1 := x_d.fr 1; replace q_d2 := x_d.c2; replace f_d2 := x_d.fr 2
    replace q_c0 := x_c.c0; replace q_c1 := x_c.c1; replace f_c0 := x_c.fr 0; replace f_c1 := x_c.fr 1; replace q_c2 := x_c.c2; replace f_c2 := x_c.fr 2
    rw [HN.out]
    go_wp2
    go_ret
    exact ⟨rfl, hb⟩

end Go.Proofs.YthbodamihiddhaaDoor
