/-
  The law ZedRests, as a call.
-/
import Derived.Test.YthnffjgbglncbaaZshown
import Derived.Test.YthnffjgbglncbaaZnew
namespace Go.Proofs.Ythnffjgbglncbaa
open Go.RowKit
set_option linter.unusedVariables false

theorem rest_round {A B : Int} (hB : B ≠ 0) : (A - roundI A B * B).natAbs * 2 ≤ B.natAbs := by
  have key : ∀ A B : Int, 0 < B → (A - rdQ A B * B).natAbs * 2 ≤ B.natAbs := fun A B h => by
    have h1 := Int.emod_add_mul_ediv A B
    have h2 := Int.emod_nonneg A (show B ≠ 0 by omega)
    have h3 := Int.emod_lt_of_pos A h
    have h4 : B * (A / B) = A / B * B := Int.mul_comm _ _
    unfold rdQ
    split
    · rw [Int.add_mul, Int.one_mul]; omega
    · omega
  unfold roundI
  split
  · have := key (-A) (-B) (by omega)
    rw [Int.mul_neg] at this
    omega
  · exact key A B (by omega)
theorem rest_up {A B : Int} (hB : B ≠ 0) : (B < 0 → 0 ≤ -(upI A B * B - A) ∧ -(upI A B * B - A) < B.natAbs) ∧ (¬ B < 0 → 0 ≤ upI A B * B - A ∧ upI A B * B - A < B.natAbs) := by
  have key : ∀ A B : Int, 0 < B → 0 ≤ upQ A B * B - A ∧ upQ A B * B - A < B.natAbs := fun A B h => by
    have h1 := Int.emod_add_mul_ediv A B
    have h2 := Int.emod_nonneg A (show B ≠ 0 by omega)
    have h3 := Int.emod_lt_of_pos A h
    have h4 : B * (A / B) = A / B * B := Int.mul_comm _ _
    unfold upQ
    split
    · rw [Int.add_mul, Int.one_mul]; omega
    · omega
  constructor
  · intro h
    have := key (-A) (-B) (by omega)
    unfold upI
    rw [if_pos h]
    rw [Int.mul_neg] at this
    omega
  · intro h
    have := key A B (by omega)
    unfold upI
    rw [if_neg h]
    exact this
theorem sgn_ge {X : Int} (h : 0 ≤ X) : 0 ≤ sgnI X := by unfold sgnI; split <;> (try split) <;> omega
theorem sgn_lt {X : Int} (h : X < 0) : sgnI X < 0 := sgnI_lt0.2 h
theorem sgn_le {X : Int} (h : X ≤ 0) : sgnI X ≤ 0 := by unfold sgnI; split <;> (try split) <;> omega
theorem Zr.nil (w : World) : Zr w false none 0 0 0 0 := ⟨[], Rd.nil, rfl, Nat.le_refl _⟩
theorem sc_one : sc 1 = 1 := rfl

set_option maxRecDepth 100000 in
set_option maxHeartbeats 32000000 in
theorem ZedRests_any {b b2 : Bool} {A A2 : Option Addr} {n c n2 c2 : Nat} {l l2 : List Int} {w : World} (h : Rd w w.heap.size A n c l) (h2 : Rd w w.heap.size A2 n2 c2 l2) :
    Calls Try.prog 11 #[.agg #[.bool b, .slice A n c], .agg #[.bool b2, .slice A2 n2 c2]] w fun e w' => e = .returned (.bool true) ∧ Below w.heap.size w w' := by
  go_enter Try.func11, Try.ntmps11
  go_wp2_with fail
  obtain ⟨hb, x_a, x_b⟩ := box2 w b A n c b2 A2 n2 c2
  generalize (w.alloc (.cells #[.bool b, .slice A n c] 24)).alloc (.cells #[.bool b2, .slice A2 n2 c2] 24) = v1 at *
  replace h := h.go hb
  replace h2 := h2.go hb
  have q_a0 := x_a.c0; have q_a1 := x_a.c1; have f_a0 := x_a.fr 0; have f_a1 := x_a.fr 1
  have q_b0 := x_b.c0; have q_b1 := x_b.c1; have f_b0 := x_b.fr 0; have f_b1 := x_b.fr 1
  go_wp2_with fail
  with_reducible refine (Zshown_any _).mono ?_
  rintro e v2 ⟨rfl, hb1⟩
  replace x_a := x_a.keep hb1
  replace x_b := x_b.keep hb1
  replace h := h.go hb1
  replace h2 := h2.go hb1
  replace hb := bthen hb hb1
  clear hb1
  replace q_a0 := x_a.c0; replace q_a1 := x_a.c1; replace f_a0 := x_a.fr 0; replace f_a1 := x_a.fr 1
  replace q_b0 := x_b.c0; replace q_b1 := x_b.c1; replace f_b0 := x_b.fr 0; replace f_b1 := x_b.fr 1
  go_wp2_with fail
  with_reducible refine (Zcut_at h 10 10 rfl (by omega)).mono ?_
  rintro e v3 ⟨Aa_, na_, ca_, rfl, pa, ka, hb1⟩
  replace x_a := x_a.keep hb1
  replace x_b := x_b.keep hb1
  replace h := h.go hb1
  replace h2 := h2.go hb1
  replace hb := bthen hb hb1
  clear hb1
  replace q_a0 := x_a.c0; replace q_a1 := x_a.c1; replace f_a0 := x_a.fr 0; replace f_a1 := x_a.fr 1
  replace q_b0 := x_b.c0; replace q_b1 := x_b.c1; replace f_b0 := x_b.fr 0; replace f_b1 := x_b.fr 1
  obtain ⟨A, za⟩ : ∃ X, Zr _ b Aa_ na_ ca_ X 10 := ⟨_, _, pa, rfl, ka⟩
  clear pa ka
  clear h
  go_wp2_with fail
  replace x_b := x_b.aside (b' := b) (A' := Aa_) (n' := na_) (c' := ca_) (g := w.heap.size) (by omega)
  replace h2 := h2.sput (b' := b) (A' := Aa_) (n' := na_) (c' := ca_) x_a
  replace za := za.put (b' := b) (A' := Aa_) (n' := na_) (c' := ca_) x_a
  replace hb := put_below (g := w.heap.size) hb (by omega) (.bool b) (.slice Aa_ na_ ca_)
  replace x_a := x_a.put b Aa_ na_ ca_
  clear q_a0 q_a1 f_a0 f_a1 q_b0 q_b1 f_b0 f_b1
  generalize (v3.setCell ⟨w.heap.size, 0, none⟩ (.bool b)).setCell ⟨w.heap.size, 1, none⟩ (.slice Aa_ na_ ca_) = v4 at *
  have q_a0 := x_a.c0; have q_a1 := x_a.c1; have f_a0 := x_a.fr 0; have f_a1 := x_a.fr 1
  have q_b0 := x_b.c0; have q_b1 := x_b.c1; have f_b0 := x_b.fr 0; have f_b1 := x_b.fr 1
  with_reducible refine (Zcut_at h2 10 10 rfl (by omega)).mono ?_
  rintro e v5 ⟨Ab_, nb_, cb_, rfl, pb, kb, hb1⟩
  replace x_a := x_a.keep hb1
  replace x_b := x_b.keep hb1
  replace h2 := h2.go hb1
  replace za := za.keep hb1
  replace hb := bthen hb hb1
  clear hb1
  replace q_a0 := x_a.c0; replace q_a1 := x_a.c1; replace f_a0 := x_a.fr 0; replace f_a1 := x_a.fr 1
  replace q_b0 := x_b.c0; replace q_b1 := x_b.c1; replace f_b0 := x_b.fr 0; replace f_b1 := x_b.fr 1
  obtain ⟨B, zb⟩ : ∃ X, Zr _ b2 Ab_ nb_ cb_ X 10 := ⟨_, _, pb, rfl, kb⟩
  clear pb kb
  clear h2
  go_wp2_with fail
  replace x_a := x_a.aside (b' := b2) (A' := Ab_) (n' := nb_) (c' := cb_) (g := w.heap.size + 1) (by omega)
  replace za := za.put (b' := b2) (A' := Ab_) (n' := nb_) (c' := cb_) x_b
  replace zb := zb.put (b' := b2) (A' := Ab_) (n' := nb_) (c' := cb_) x_b
  replace hb := put_below (g := w.heap.size + 1) hb (by omega) (.bool b2) (.slice Ab_ nb_ cb_)
  replace x_b := x_b.put b2 Ab_ nb_ cb_
  clear q_a0 q_a1 f_a0 f_a1 q_b0 q_b1 f_b0 f_b1
  generalize (v5.setCell ⟨w.heap.size + 1, 0, none⟩ (.bool b2)).setCell ⟨w.heap.size + 1, 1, none⟩ (.slice Ab_ nb_ cb_) = v6 at *
  have q_a0 := x_a.c0; have q_a1 := x_a.c1; have f_a0 := x_a.fr 0; have f_a1 := x_a.fr 1
  have q_b0 := x_b.c0; have q_b1 := x_b.c1; have f_b0 := x_b.fr 0; have f_b1 := x_b.fr 1
  by_cases hB0 : B = 0
  · have hsb : sgnI B = 0 := sgnI_eq0.2 hB0
    have HSB := Lib.hid hsb; clear hsb
    skip
    with_reducible refine (ZDivMod_zero za zb hB0).mono ?_
    rintro e v7 ⟨rfl, hb1⟩
    replace x_a := x_a.keep hb1
    replace x_b := x_b.keep hb1
    replace za := za.keep hb1
    replace zb := zb.keep hb1
    replace hb := bthen hb hb1
    clear hb1
    replace q_a0 := x_a.c0; replace q_a1 := x_a.c1; replace f_a0 := x_a.fr 0; replace f_a1 := x_a.fr 1
    replace q_b0 := x_b.c0; replace q_b1 := x_b.c1; replace f_b0 := x_b.fr 0; replace f_b1 := x_b.fr 1
    have y_a := ((x_a.alloc (.cells #[.bool false, .slice none 0 0] 24)).alloc (.cells #[.bool false, .slice none 0 0] 24)); have yq_a0 := y_a.c0; have yq_a1 := y_a.c1
    have y_b := ((x_b.alloc (.cells #[.bool false, .slice none 0 0] 24)).alloc (.cells #[.bool false, .slice none 0 0] 24)); have yq_b0 := y_b.c0; have yq_b1 := y_b.c1
    go_wp2_with fail
    clear y_a yq_a0 yq_a1 y_b yq_b0 yq_b1
    have l_a_q := x_a.lt
    have l_b_q := x_b.lt
    have e_q : w.heap.size ≤ v7.heap.size := hb.size
    obtain ⟨hb1, x_q, x_r⟩ := box2 v7 false none 0 0 false none 0 0
    replace x_a := x_a.keep hb1
    replace x_b := x_b.keep hb1
    replace za := za.keep hb1
    replace zb := zb.keep hb1
    replace hb := bthen hb hb1
    clear hb1
    replace q_a0 := x_a.c0; replace q_a1 := x_a.c1; replace f_a0 := x_a.fr 0; replace f_a1 := x_a.fr 1
    replace q_b0 := x_b.c0; replace q_b1 := x_b.c1; replace f_b0 := x_b.fr 0; replace f_b1 := x_b.fr 1
    clear q_a0 q_a1 f_a0 f_a1 q_b0 q_b1 f_b0 f_b1
    generalize (v7.alloc (.cells #[.bool false, .slice none 0 0] 24)).alloc (.cells #[.bool false, .slice none 0 0] 24) = v8 at *
    have q_a0 := x_a.c0; have q_a1 := x_a.c1; have f_a0 := x_a.fr 0; have f_a1 := x_a.fr 1
    have q_b0 := x_b.c0; have q_b1 := x_b.c1; have f_b0 := x_b.fr 0; have f_b1 := x_b.fr 1
    have q_q0 := x_q.c0; have q_q1 := x_q.c1; have f_q0 := x_q.fr 0; have f_q1 := x_q.fr 1
    have q_r0 := x_r.c0; have q_r1 := x_r.c1; have f_r0 := x_r.fr 0; have f_r1 := x_r.fr 1
    clear hB0
    skip
    with_reducible refine (ZSign_any zb (by omega)).mono ?_
    rintro e v9 ⟨rfl, hb1⟩
    replace x_a := x_a.keep hb1
    replace x_b := x_b.keep hb1
    replace x_q := x_q.keep hb1
    replace x_r := x_r.keep hb1
    replace za := za.keep hb1
    replace zb := zb.keep hb1
    replace hb := bthen hb hb1
    clear hb1
    replace q_a0 := x_a.c0; replace q_a1 := x_a.c1; replace f_a0 := x_a.fr 0; replace f_a1 := x_a.fr 1
    replace q_b0 := x_b.c0; replace q_b1 := x_b.c1; replace f_b0 := x_b.fr 0; replace f_b1 := x_b.fr 1
    replace q_q0 := x_q.c0; replace q_q1 := x_q.c1; replace f_q0 := x_q.fr 0; replace f_q1 := x_q.fr 1
    replace q_r0 := x_r.c0; replace q_r1 := x_r.c1; replace f_r0 := x_r.fr 0; replace f_r1 := x_r.fr 1
    rw [HSB.out]
    go_wp2_with fail
    with_reducible refine (ZSign_any (Zr.nil _) (by omega)).mono ?_
    rintro e v10 ⟨rfl, hb1⟩
    replace x_a := x_a.keep hb1
    replace x_b := x_b.keep hb1
    replace x_q := x_q.keep hb1
    replace x_r := x_r.keep hb1
    replace za := za.keep hb1
    replace zb := zb.keep hb1
    replace hb := bthen hb hb1
    clear hb1
    replace q_a0 := x_a.c0; replace q_a1 := x_a.c1; replace f_a0 := x_a.fr 0; replace f_a1 := x_a.fr 1
    replace q_b0 := x_b.c0; replace q_b1 := x_b.c1; replace f_b0 := x_b.fr 0; replace f_b1 := x_b.fr 1
    replace q_q0 := x_q.c0; replace q_q1 := x_q.c1; replace f_q0 := x_q.fr 0; replace f_q1 := x_q.fr 1
    replace q_r0 := x_r.c0; replace q_r1 := x_r.c1; replace f_r0 := x_r.fr 0; replace f_r1 := x_r.fr 1
    rw [show sgnI 0 = 0 from rfl]
    go_wp2_with fail
    with_reducible refine (ZSign_any (Zr.nil _) (by omega)).mono ?_
    rintro e v11 ⟨rfl, hb1⟩
    replace x_a := x_a.keep hb1
    replace x_b := x_b.keep hb1
    replace x_q := x_q.keep hb1
    replace x_r := x_r.keep hb1
    replace za := za.keep hb1
    replace zb := zb.keep hb1
    replace hb := bthen hb hb1
    clear hb1
    replace q_a0 := x_a.c0; replace q_a1 := x_a.c1; replace f_a0 := x_a.fr 0; replace f_a1 := x_a.fr 1
    replace q_b0 := x_b.c0; replace q_b1 := x_b.c1; replace f_b0 := x_b.fr 0; replace f_b1 := x_b.fr 1
    replace q_q0 := x_q.c0; replace q_q1 := x_q.c1; replace f_q0 := x_q.fr 0; replace f_q1 := x_q.fr 1
    replace q_r0 := x_r.c0; replace q_r1 := x_r.c1; replace f_r0 := x_r.fr 0; replace f_r1 := x_r.fr 1
    rw [show sgnI 0 = 0 from rfl]
    go_wp2
    go_ret
    exact ⟨rfl, hb⟩
  · have hsb : (sgnI B == 0) = false := by rw [beq_eq_false_iff_ne]; exact fun h => hB0 (sgnI_eq0.1 h)
    have HB0 := Lib.hid hB0
    have hdm := Int.emod_add_mul_ediv A B
    have hr0 := Int.emod_nonneg A hB0
    have hrl := Int.emod_lt A hB0
    have hro := rest_round (A := A) hB0
    have hup := rest_up (A := A) hB0
    have e1 : A / B * B + A % B = A := by rw [Int.mul_comm]; omega
    have c1 : 0 ≤ sgnI (A % B) := sgn_ge hr0
    have c2 : sgnI (A % B - (B.natAbs : Int)) < 0 := sgn_lt (by omega)
    have c3 : sgnI (((A - roundI A B * B).natAbs : Int) * 2 ^ sc 1 - (B.natAbs : Int)) ≤ 0 := sgn_le (by rw [sc_one, Int.pow_succ, Int.pow_zero]; omega)
    have HDM := Lib.hid e1; have HUP := Lib.hid hup; have C1 := Lib.hid c1; have C2 := Lib.hid c2; have C3 := Lib.hid c3
    clear hdm hr0 hrl hro hup e1 c1 c2 c3 hB0
    skip
    with_reducible refine (ZDivMod_any za zb HB0.out 11 (by omega) (by omega) (by omega)).mono ?_
    rintro e v7 ⟨Aq, nq, cq, Ar, nr, cr, rfl, z_q, z_r, hb1⟩
    replace x_a := x_a.keep hb1
    replace x_b := x_b.keep hb1
    replace za := za.keep hb1
    replace zb := zb.keep hb1
    replace hb := bthen hb hb1
    clear hb1
    replace q_a0 := x_a.c0; replace q_a1 := x_a.c1; replace f_a0 := x_a.fr 0; replace f_a1 := x_a.fr 1
    replace q_b0 := x_b.c0; replace q_b1 := x_b.c1; replace f_b0 := x_b.fr 0; replace f_b1 := x_b.fr 1
    generalize A / B = Q at *
    generalize A % B = R at *
    have y_a := ((x_a.alloc (.cells #[.bool (ngB Q), .slice Aq nq cq] 24)).alloc (.cells #[.bool (ngB R), .slice Ar nr cr] 24)); have yq_a0 := y_a.c0; have yq_a1 := y_a.c1
    have y_b := ((x_b.alloc (.cells #[.bool (ngB Q), .slice Aq nq cq] 24)).alloc (.cells #[.bool (ngB R), .slice Ar nr cr] 24)); have yq_b0 := y_b.c0; have yq_b1 := y_b.c1
    go_wp2_with fail
    clear y_a yq_a0 yq_a1 y_b yq_b0 yq_b1
    have l_a_q := x_a.lt
    have l_b_q := x_b.lt
    have e_q : w.heap.size ≤ v7.heap.size := hb.size
    obtain ⟨hb1, x_q, x_r⟩ := box2 v7 (ngB Q) Aq nq cq (ngB R) Ar nr cr
    replace x_a := x_a.keep hb1
    replace x_b := x_b.keep hb1
    replace za := za.keep hb1
    replace zb := zb.keep hb1
    replace z_q := z_q.keep hb1
    replace z_r := z_r.keep hb1
    replace hb := bthen hb hb1
    clear hb1
    replace q_a0 := x_a.c0; replace q_a1 := x_a.c1; replace f_a0 := x_a.fr 0; replace f_a1 := x_a.fr 1
    replace q_b0 := x_b.c0; replace q_b1 := x_b.c1; replace f_b0 := x_b.fr 0; replace f_b1 := x_b.fr 1
    clear q_a0 q_a1 f_a0 f_a1 q_b0 q_b1 f_b0 f_b1
    generalize (v7.alloc (.cells #[.bool (ngB Q), .slice Aq nq cq] 24)).alloc (.cells #[.bool (ngB R), .slice Ar nr cr] 24) = v8 at *
    have q_a0 := x_a.c0; have q_a1 := x_a.c1; have f_a0 := x_a.fr 0; have f_a1 := x_a.fr 1
    have q_b0 := x_b.c0; have q_b1 := x_b.c1; have f_b0 := x_b.fr 0; have f_b1 := x_b.fr 1
    have q_q0 := x_q.c0; have q_q1 := x_q.c1; have f_q0 := x_q.fr 0; have f_q1 := x_q.fr 1
    have q_r0 := x_r.c0; have q_r1 := x_r.c1; have f_r0 := x_r.fr 0; have f_r1 := x_r.fr 1
    have hsbb := sgnI_is B
    have HSB2 : Hid (sgnI B < 0 ↔ B < 0) := sgnI_lt0
    generalize hSB : sgnI B = SB at *
    have HSB := Lib.hid hSB; clear hSB
    skip
    with_reducible refine (ZSign_any zb (by omega)).mono ?_
    rintro e v9 ⟨rfl, hb1⟩
    replace x_a := x_a.keep hb1
    replace x_b := x_b.keep hb1
    replace x_q := x_q.keep hb1
    replace x_r := x_r.keep hb1
    replace za := za.keep hb1
    replace zb := zb.keep hb1
    replace z_q := z_q.keep hb1
    replace z_r := z_r.keep hb1
    replace hb := bthen hb hb1
    clear hb1
    replace q_a0 := x_a.c0; replace q_a1 := x_a.c1; replace f_a0 := x_a.fr 0; replace f_a1 := x_a.fr 1
    replace q_b0 := x_b.c0; replace q_b1 := x_b.c1; replace f_b0 := x_b.fr 0; replace f_b1 := x_b.fr 1
    replace q_q0 := x_q.c0; replace q_q1 := x_q.c1; replace f_q0 := x_q.fr 0; replace f_q1 := x_q.fr 1
    replace q_r0 := x_r.c0; replace q_r1 := x_r.c1; replace f_r0 := x_r.fr 0; replace f_r1 := x_r.fr 1
    rw [HSB.out]
    go_wp2_with fail
    with_reducible refine (ZRound_any za zb HB0.out 11 (by omega) (by omega) (by omega)).mono ?_
    rintro e v10 ⟨An, nn, cn, rfl, z_n, hb1⟩
    replace x_a := x_a.keep hb1
    replace x_b := x_b.keep hb1
    replace x_q := x_q.keep hb1
    replace x_r := x_r.keep hb1
    replace za := za.keep hb1
    replace zb := zb.keep hb1
    replace z_q := z_q.keep hb1
    replace z_r := z_r.keep hb1
    replace hb := bthen hb hb1
    clear hb1
    replace q_a0 := x_a.c0; replace q_a1 := x_a.c1; replace f_a0 := x_a.fr 0; replace f_a1 := x_a.fr 1
    replace q_b0 := x_b.c0; replace q_b1 := x_b.c1; replace f_b0 := x_b.fr 0; replace f_b1 := x_b.fr 1
    replace q_q0 := x_q.c0; replace q_q1 := x_q.c1; replace f_q0 := x_q.fr 0; replace f_q1 := x_q.fr 1
    replace q_r0 := x_r.c0; replace q_r1 := x_r.c1; replace f_r0 := x_r.fr 0; replace f_r1 := x_r.fr 1
    generalize roundI A B = NN at *
    have y_a := (x_a.alloc (.cells #[.bool (ngB NN), .slice An nn cn] 24)); have yq_a0 := y_a.c0; have yq_a1 := y_a.c1
    have y_b := (x_b.alloc (.cells #[.bool (ngB NN), .slice An nn cn] 24)); have yq_b0 := y_b.c0; have yq_b1 := y_b.c1
    have y_q := (x_q.alloc (.cells #[.bool (ngB NN), .slice An nn cn] 24)); have yq_q0 := y_q.c0; have yq_q1 := y_q.c1
    have y_r := (x_r.alloc (.cells #[.bool (ngB NN), .slice An nn cn] 24)); have yq_r0 := y_r.c0; have yq_r1 := y_r.c1
    go_wp2_with fail
    clear y_a yq_a0 yq_a1 y_b yq_b0 yq_b1 y_q yq_q0 yq_q1 y_r yq_r0 yq_r1
    have hb1 := below_alloc v10 (.cells #[.bool (ngB NN), .slice An nn cn] 24)
    have l_a_n := x_a.lt
    have l_b_n := x_b.lt
    have l_q_n := x_q.lt
    have l_r_n := x_r.lt
    have x_n := Bx.new v10 (ngB NN) An nn cn
    have e_n : w.heap.size ≤ v10.heap.size := hb.size
    replace x_a := x_a.keep hb1
    replace x_b := x_b.keep hb1
    replace x_q := x_q.keep hb1
    replace x_r := x_r.keep hb1
    replace za := za.keep hb1
    replace zb := zb.keep hb1
    replace z_q := z_q.keep hb1
    replace z_r := z_r.keep hb1
    replace z_n := z_n.keep hb1
    replace hb := bthen hb hb1
    clear hb1
    replace q_a0 := x_a.c0; replace q_a1 := x_a.c1; replace f_a0 := x_a.fr 0; replace f_a1 := x_a.fr 1
    replace q_b0 := x_b.c0; replace q_b1 := x_b.c1; replace f_b0 := x_b.fr 0; replace f_b1 := x_b.fr 1
    replace q_q0 := x_q.c0; replace q_q1 := x_q.c1; replace f_q0 := x_q.fr 0; replace f_q1 := x_q.fr 1
    replace q_r0 := x_r.c0; replace q_r1 := x_r.c1; replace f_r0 := x_r.fr 0; replace f_r1 := x_r.fr 1
    clear q_a0 q_a1 f_a0 f_a1 q_b0 q_b1 f_b0 f_b1 q_q0 q_q1 f_q0 f_q1 q_r0 q_r1 f_r0 f_r1
    generalize v10.alloc (.cells #[.bool (ngB NN), .slice An nn cn] 24) = v11 at *
    have q_a0 := x_a.c0; have q_a1 := x_a.c1; have f_a0 := x_a.fr 0; have f_a1 := x_a.fr 1
    have q_b0 := x_b.c0; have q_b1 := x_b.c1; have f_b0 := x_b.fr 0; have f_b1 := x_b.fr 1
    have q_q0 := x_q.c0; have q_q1 := x_q.c1; have f_q0 := x_q.fr 0; have f_q1 := x_q.fr 1
    have q_r0 := x_r.c0; have q_r1 := x_r.c1; have f_r0 := x_r.fr 0; have f_r1 := x_r.fr 1
    have q_n0 := x_n.c0; have q_n1 := x_n.c1; have f_n0 := x_n.fr 0; have f_n1 := x_n.fr 1
    skip
    with_reducible refine (ZUp_any za zb HB0.out 11 (by omega) (by omega) (by omega)).mono ?_
    rintro e v12 ⟨Au, nu, cu, rfl, z_u, hb1⟩
    replace x_a := x_a.keep hb1
    replace x_b := x_b.keep hb1
    replace x_q := x_q.keep hb1
    replace x_r := x_r.keep hb1
    replace x_n := x_n.keep hb1
    replace za := za.keep hb1
    replace zb := zb.keep hb1
    replace z_q := z_q.keep hb1
    replace z_r := z_r.keep hb1
    replace z_n := z_n.keep hb1
    replace hb := bthen hb hb1
    clear hb1
    replace q_a0 := x_a.c0; replace q_a1 := x_a.c1; replace f_a0 := x_a.fr 0; replace f_a1 := x_a.fr 1
    replace q_b0 := x_b.c0; replace q_b1 := x_b.c1; replace f_b0 := x_b.fr 0; replace f_b1 := x_b.fr 1
    replace q_q0 := x_q.c0; replace q_q1 := x_q.c1; replace f_q0 := x_q.fr 0; replace f_q1 := x_q.fr 1
    replace q_r0 := x_r.c0; replace q_r1 := x_r.c1; replace f_r0 := x_r.fr 0; replace f_r1 := x_r.fr 1
    replace q_n0 := x_n.c0; replace q_n1 := x_n.c1; replace f_n0 := x_n.fr 0; replace f_n1 := x_n.fr 1
    generalize upI A B = UU at *
    have y_a := (x_a.alloc (.cells #[.bool (ngB UU), .slice Au nu cu] 24)); have yq_a0 := y_a.c0; have yq_a1 := y_a.c1
    have y_b := (x_b.alloc (.cells #[.bool (ngB UU), .slice Au nu cu] 24)); have yq_b0 := y_b.c0; have yq_b1 := y_b.c1
    have y_q := (x_q.alloc (.cells #[.bool (ngB UU), .slice Au nu cu] 24)); have yq_q0 := y_q.c0; have yq_q1 := y_q.c1
    have y_r := (x_r.alloc (.cells #[.bool (ngB UU), .slice Au nu cu] 24)); have yq_r0 := y_r.c0; have yq_r1 := y_r.c1
    have y_n := (x_n.alloc (.cells #[.bool (ngB UU), .slice Au nu cu] 24)); have yq_n0 := y_n.c0; have yq_n1 := y_n.c1
    go_wp2_with fail
    clear y_a yq_a0 yq_a1 y_b yq_b0 yq_b1 y_q yq_q0 yq_q1 y_r yq_r0 yq_r1 y_n yq_n0 yq_n1
    have hb1 := below_alloc v12 (.cells #[.bool (ngB UU), .slice Au nu cu] 24)
    have l_a_u := x_a.lt
    have l_b_u := x_b.lt
    have l_q_u := x_q.lt
    have l_r_u := x_r.lt
    have l_n_u := x_n.lt
    have x_u := Bx.new v12 (ngB UU) Au nu cu
    have e_u : w.heap.size ≤ v12.heap.size := hb.size
    replace x_a := x_a.keep hb1
    replace x_b := x_b.keep hb1
    replace x_q := x_q.keep hb1
    replace x_r := x_r.keep hb1
    replace x_n := x_n.keep hb1
    replace za := za.keep hb1
    replace zb := zb.keep hb1
    replace z_q := z_q.keep hb1
    replace z_r := z_r.keep hb1
    replace z_n := z_n.keep hb1
    replace z_u := z_u.keep hb1
    replace hb := bthen hb hb1
    clear hb1
    replace q_a0 := x_a.c0; replace q_a1 := x_a.c1; replace f_a0 := x_a.fr 0; replace f_a1 := x_a.fr 1
    replace q_b0 := x_b.c0; replace q_b1 := x_b.c1; replace f_b0 := x_b.fr 0; replace f_b1 := x_b.fr 1
    replace q_q0 := x_q.c0; replace q_q1 := x_q.c1; replace f_q0 := x_q.fr 0; replace f_q1 := x_q.fr 1
    replace q_r0 := x_r.c0; replace q_r1 := x_r.c1; replace f_r0 := x_r.fr 0; replace f_r1 := x_r.fr 1
    replace q_n0 := x_n.c0; replace q_n1 := x_n.c1; replace f_n0 := x_n.fr 0; replace f_n1 := x_n.fr 1
    clear q_a0 q_a1 f_a0 f_a1 q_b0 q_b1 f_b0 f_b1 q_q0 q_q1 f_q0 f_q1 q_r0 q_r1 f_r0 f_r1 q_n0 q_n1 f_n0 f_n1
    generalize v12.alloc (.cells #[.bool (ngB UU), .slice Au nu cu] 24) = v13 at *
    have q_a0 := x_a.c0; have q_a1 := x_a.c1; have f_a0 := x_a.fr 0; have f_a1 := x_a.fr 1
    have q_b0 := x_b.c0; have q_b1 := x_b.c1; have f_b0 := x_b.fr 0; have f_b1 := x_b.fr 1
    have q_q0 := x_q.c0; have q_q1 := x_q.c1; have f_q0 := x_q.fr 0; have f_q1 := x_q.fr 1
    have q_r0 := x_r.c0; have q_r1 := x_r.c1; have f_r0 := x_r.fr 0; have f_r1 := x_r.fr 1
    have q_n0 := x_n.c0; have q_n1 := x_n.c1; have f_n0 := x_n.fr 0; have f_n1 := x_n.fr 1
    have q_u0 := x_u.c0; have q_u1 := x_u.c1; have f_u0 := x_u.fr 0; have f_u1 := x_u.fr 1
    skip
    with_reducible refine (ZAbs_any zb 10 (by omega)).mono ?_
    rintro e v14 ⟨Ah, nh, ch, rfl, z_h, hb1⟩
    replace x_a := x_a.keep hb1
    replace x_b := x_b.keep hb1
    replace x_q := x_q.keep hb1
    replace x_r := x_r.keep hb1
    replace x_n := x_n.keep hb1
    replace x_u := x_u.keep hb1
    replace za := za.keep hb1
    replace zb := zb.keep hb1
    replace z_q := z_q.keep hb1
    replace z_r := z_r.keep hb1
    replace z_n := z_n.keep hb1
    replace z_u := z_u.keep hb1
    replace hb := bthen hb hb1
    clear hb1
    replace q_a0 := x_a.c0; replace q_a1 := x_a.c1; replace f_a0 := x_a.fr 0; replace f_a1 := x_a.fr 1
    replace q_b0 := x_b.c0; replace q_b1 := x_b.c1; replace f_b0 := x_b.fr 0; replace f_b1 := x_b.fr 1
    replace q_q0 := x_q.c0; replace q_q1 := x_q.c1; replace f_q0 := x_q.fr 0; replace f_q1 := x_q.fr 1
    replace q_r0 := x_r.c0; replace q_r1 := x_r.c1; replace f_r0 := x_r.fr 0; replace f_r1 := x_r.fr 1
    replace q_n0 := x_n.c0; replace q_n1 := x_n.c1; replace f_n0 := x_n.fr 0; replace f_n1 := x_n.fr 1
    replace q_u0 := x_u.c0; replace q_u1 := x_u.c1; replace f_u0 := x_u.fr 0; replace f_u1 := x_u.fr 1
    have y_a := (x_a.alloc (.cells #[.bool (ngB (B.natAbs : Int)), .slice Ah nh ch] 24)); have yq_a0 := y_a.c0; have yq_a1 := y_a.c1
    have y_b := (x_b.alloc (.cells #[.bool (ngB (B.natAbs : Int)), .slice Ah nh ch] 24)); have yq_b0 := y_b.c0; have yq_b1 := y_b.c1
    have y_q := (x_q.alloc (.cells #[.bool (ngB (B.natAbs : Int)), .slice Ah nh ch] 24)); have yq_q0 := y_q.c0; have yq_q1 := y_q.c1
    have y_r := (x_r.alloc (.cells #[.bool (ngB (B.natAbs : Int)), .slice Ah nh ch] 24)); have yq_r0 := y_r.c0; have yq_r1 := y_r.c1
    have y_n := (x_n.alloc (.cells #[.bool (ngB (B.natAbs : Int)), .slice Ah nh ch] 24)); have yq_n0 := y_n.c0; have yq_n1 := y_n.c1
    have y_u := (x_u.alloc (.cells #[.bool (ngB (B.natAbs : Int)), .slice Ah nh ch] 24)); have yq_u0 := y_u.c0; have yq_u1 := y_u.c1
    go_wp2_with fail
    clear y_a yq_a0 yq_a1 y_b yq_b0 yq_b1 y_q yq_q0 yq_q1 y_r yq_r0 yq_r1 y_n yq_n0 yq_n1 y_u yq_u0 yq_u1
    have hb1 := below_alloc v14 (.cells #[.bool (ngB (B.natAbs : Int)), .slice Ah nh ch] 24)
    have l_a_h := x_a.lt
    have l_b_h := x_b.lt
    have l_q_h := x_q.lt
    have l_r_h := x_r.lt
    have l_n_h := x_n.lt
    have l_u_h := x_u.lt
    have x_h := Bx.new v14 (ngB (B.natAbs : Int)) Ah nh ch
    have e_h : w.heap.size ≤ v14.heap.size := hb.size
    replace x_a := x_a.keep hb1
    replace x_b := x_b.keep hb1
    replace x_q := x_q.keep hb1
    replace x_r := x_r.keep hb1
    replace x_n := x_n.keep hb1
    replace x_u := x_u.keep hb1
    replace za := za.keep hb1
    replace zb := zb.keep hb1
    replace z_q := z_q.keep hb1
    replace z_r := z_r.keep hb1
    replace z_n := z_n.keep hb1
    replace z_u := z_u.keep hb1
    replace z_h := z_h.keep hb1
    replace hb := bthen hb hb1
    clear hb1
    replace q_a0 := x_a.c0; replace q_a1 := x_a.c1; replace f_a0 := x_a.fr 0; replace f_a1 := x_a.fr 1
    replace q_b0 := x_b.c0; replace q_b1 := x_b.c1; replace f_b0 := x_b.fr 0; replace f_b1 := x_b.fr 1
    replace q_q0 := x_q.c0; replace q_q1 := x_q.c1; replace f_q0 := x_q.fr 0; replace f_q1 := x_q.fr 1
    replace q_r0 := x_r.c0; replace q_r1 := x_r.c1; replace f_r0 := x_r.fr 0; replace f_r1 := x_r.fr 1
    replace q_n0 := x_n.c0; replace q_n1 := x_n.c1; replace f_n0 := x_n.fr 0; replace f_n1 := x_n.fr 1
    replace q_u0 := x_u.c0; replace q_u1 := x_u.c1; replace f_u0 := x_u.fr 0; replace f_u1 := x_u.fr 1
    clear q_a0 q_a1 f_a0 f_a1 q_b0 q_b1 f_b0 f_b1 q_q0 q_q1 f_q0 f_q1 q_r0 q_r1 f_r0 f_r1 q_n0 q_n1 f_n0 f_n1 q_u0 q_u1 f_u0 f_u1
    generalize v14.alloc (.cells #[.bool (ngB (B.natAbs : Int)), .slice Ah nh ch] 24) = v15 at *
    have q_a0 := x_a.c0; have q_a1 := x_a.c1; have f_a0 := x_a.fr 0; have f_a1 := x_a.fr 1
    have q_b0 := x_b.c0; have q_b1 := x_b.c1; have f_b0 := x_b.fr 0; have f_b1 := x_b.fr 1
    have q_q0 := x_q.c0; have q_q1 := x_q.c1; have f_q0 := x_q.fr 0; have f_q1 := x_q.fr 1
    have q_r0 := x_r.c0; have q_r1 := x_r.c1; have f_r0 := x_r.fr 0; have f_r1 := x_r.fr 1
    have q_n0 := x_n.c0; have q_n1 := x_n.c1; have f_n0 := x_n.fr 0; have f_n1 := x_n.fr 1
    have q_u0 := x_u.c0; have q_u1 := x_u.c1; have f_u0 := x_u.fr 0; have f_u1 := x_u.fr 1
    have q_h0 := x_h.c0; have q_h1 := x_h.c1; have f_h0 := x_h.fr 0; have f_h1 := x_h.fr 1
    go_upto_region 10 with fail
    have hv := Below.refl v15.heap.size v15
    have l_a_f := x_a.lt
    have l_b_f := x_b.lt
    have l_q_f := x_q.lt
    have l_r_f := x_r.lt
    have l_n_f := x_n.lt
    have l_u_f := x_u.lt
    have l_h_f := x_h.lt
    go_cut [14] (fun s9 wx => BxNew v15 (((A - NN * B).natAbs : Int) * 2 ^ sc 1) 151 s9 wx)
    case first =>
      go_region_held3 (fun w' => w'.cell? ⟨w.heap.size, 0, none⟩ = some (.bool b) ∧ w'.cell? ⟨w.heap.size, 1, none⟩ = some (.slice Aa_ na_ ca_) ∧ w'.cell? ⟨v10.heap.size, 0, none⟩ = some (.bool (ngB NN)) ∧ w'.cell? ⟨v10.heap.size, 1, none⟩ = some (.slice An nn cn) ∧ w'.cell? ⟨w.heap.size + 1, 0, none⟩ = some (.bool b2) ∧ w'.cell? ⟨w.heap.size + 1, 1, none⟩ = some (.slice Ab_ nb_ cb_))
        (first | (with_reducible exact ⟨x_a.c0, x_a.c1, x_n.c0, x_n.c1, x_b.c0, x_b.c1⟩) | (with_reducible exact ⟨(x_a.alloc _).c0, (x_a.alloc _).c1, (x_n.alloc _).c0, (x_n.alloc _).c1, (x_b.alloc _).c0, (x_b.alloc _).c1⟩) | (with_reducible exact ⟨(x_a.aside (by omega)).c0, (x_a.aside (by omega)).c1, (x_n.aside (by omega)).c0, (x_n.aside (by omega)).c1, (x_b.aside (by omega)).c0, (x_b.aside (by omega)).c1⟩) | (with_reducible exact ⟨((x_a.alloc _).aside (by omega)).c0, ((x_a.alloc _).aside (by omega)).c1, ((x_n.alloc _).aside (by omega)).c0, ((x_n.alloc _).aside (by omega)).c1, ((x_b.alloc _).aside (by omega)).c0, ((x_b.alloc _).aside (by omega)).c1⟩) | go_keep)
        (first | (go_at_call 35; (with_reducible refine (ZMul_any z_n.drw.zr zb.drw 22 (by omega) (by omega)).mono ?_); rintro e v16 ⟨A4, n4, c4, rfl, s1, hb1⟩; replace hb1 := undrew hb1; (try replace x_f := x_f.keep hb1); replace hv := bthen hv hb1; have hvs_v16 := hv.size; replace x_a := x_a.keep hb1; replace x_b := x_b.keep hb1; replace x_q := x_q.keep hb1; replace x_r := x_r.keep hb1; replace x_n := x_n.keep hb1; replace x_u := x_u.keep hb1; replace x_h := x_h.keep hb1; replace za := za.keep hb1; replace zb := zb.keep hb1; replace z_q := z_q.keep hb1; replace z_r := z_r.keep hb1; replace z_n := z_n.keep hb1; replace z_u := z_u.keep hb1; replace z_h := z_h.keep hb1; replace hb := bthen hb hb1; clear hb1; replace q_a0 := x_a.c0; replace q_a1 := x_a.c1; replace f_a0 := x_a.fr 0; replace f_a1 := x_a.fr 1; replace q_b0 := x_b.c0; replace q_b1 := x_b.c1; replace f_b0 := x_b.fr 0; replace f_b1 := x_b.fr 1; replace q_q0 := x_q.c0; replace q_q1 := x_q.c1; replace f_q0 := x_q.fr 0; replace f_q1 := x_q.fr 1; replace q_r0 := x_r.c0; replace q_r1 := x_r.c1; replace f_r0 := x_r.fr 0; replace f_r1 := x_r.fr 1; replace q_n0 := x_n.c0; replace q_n1 := x_n.c1; replace f_n0 := x_n.fr 0; replace f_n1 := x_n.fr 1; replace q_u0 := x_u.c0; replace q_u1 := x_u.c1; replace f_u0 := x_u.fr 0; replace f_u1 := x_u.fr 1; replace q_h0 := x_h.c0; replace q_h1 := x_h.c1; replace f_h0 := x_h.fr 0; replace f_h1 := x_h.fr 1; (try (have q_f0 := x_f.c0; have q_f1 := x_f.c1; have f_f0 := x_f.fr 0; have f_f1 := x_f.fr 1))) | (go_at_call 35; (with_reducible refine (ZMul_any (z_n.keep (below_alloc v15 (.cells #[.bool false, .slice none 0 0] 24))).drw.zr (zb.keep (below_alloc v15 (.cells #[.bool false, .slice none 0 0] 24))).drw 22 (by omega) (by omega)).mono ?_); rintro e v16 ⟨A4, n4, c4, rfl, s1, hb1⟩; replace hb1 := undrew hb1; have x_f := (Bx.new v15 false none 0 0).keep hb1; replace hb1 := bthen (below_alloc v15 (.cells #[.bool false, .slice none 0 0] 24)) hb1; replace hv := bthen hv hb1; have hvs_v16 := hv.size; replace x_a := x_a.keep hb1; replace x_b := x_b.keep hb1; replace x_q := x_q.keep hb1; replace x_r := x_r.keep hb1; replace x_n := x_n.keep hb1; replace x_u := x_u.keep hb1; replace x_h := x_h.keep hb1; replace za := za.keep hb1; replace zb := zb.keep hb1; replace z_q := z_q.keep hb1; replace z_r := z_r.keep hb1; replace z_n := z_n.keep hb1; replace z_u := z_u.keep hb1; replace z_h := z_h.keep hb1; replace hb := bthen hb hb1; clear hb1; replace q_a0 := x_a.c0; replace q_a1 := x_a.c1; replace f_a0 := x_a.fr 0; replace f_a1 := x_a.fr 1; replace q_b0 := x_b.c0; replace q_b1 := x_b.c1; replace f_b0 := x_b.fr 0; replace f_b1 := x_b.fr 1; replace q_q0 := x_q.c0; replace q_q1 := x_q.c1; replace f_q0 := x_q.fr 0; replace f_q1 := x_q.fr 1; replace q_r0 := x_r.c0; replace q_r1 := x_r.c1; replace f_r0 := x_r.fr 0; replace f_r1 := x_r.fr 1; replace q_n0 := x_n.c0; replace q_n1 := x_n.c1; replace f_n0 := x_n.fr 0; replace f_n1 := x_n.fr 1; replace q_u0 := x_u.c0; replace q_u1 := x_u.c1; replace f_u0 := x_u.fr 0; replace f_u1 := x_u.fr 1; replace q_h0 := x_h.c0; replace q_h1 := x_h.c1; replace f_h0 := x_h.fr 0; replace f_h1 := x_h.fr 1; (try (have q_f0 := x_f.c0; have q_f1 := x_f.c1; have f_f0 := x_f.fr 0; have f_f1 := x_f.fr 1))) | (go_at_call 33; (with_reducible refine (ZSub_any za s1.zr 23 (by omega) (by omega) (by omega)).mono ?_); rintro e v17 ⟨A5, n5, c5, rfl, s2, hb1⟩; (try replace x_f := x_f.keep hb1); replace hv := bthen hv hb1; have hvs_v17 := hv.size; replace x_a := x_a.keep hb1; replace x_b := x_b.keep hb1; replace x_q := x_q.keep hb1; replace x_r := x_r.keep hb1; replace x_n := x_n.keep hb1; replace x_u := x_u.keep hb1; replace x_h := x_h.keep hb1; replace za := za.keep hb1; replace zb := zb.keep hb1; replace z_q := z_q.keep hb1; replace z_r := z_r.keep hb1; replace z_n := z_n.keep hb1; replace z_u := z_u.keep hb1; replace z_h := z_h.keep hb1; replace s1 := s1.keep hb1; replace hb := bthen hb hb1; clear hb1; replace q_a0 := x_a.c0; replace q_a1 := x_a.c1; replace f_a0 := x_a.fr 0; replace f_a1 := x_a.fr 1; replace q_b0 := x_b.c0; replace q_b1 := x_b.c1; replace f_b0 := x_b.fr 0; replace f_b1 := x_b.fr 1; replace q_q0 := x_q.c0; replace q_q1 := x_q.c1; replace f_q0 := x_q.fr 0; replace f_q1 := x_q.fr 1; replace q_r0 := x_r.c0; replace q_r1 := x_r.c1; replace f_r0 := x_r.fr 0; replace f_r1 := x_r.fr 1; replace q_n0 := x_n.c0; replace q_n1 := x_n.c1; replace f_n0 := x_n.fr 0; replace f_n1 := x_n.fr 1; replace q_u0 := x_u.c0; replace q_u1 := x_u.c1; replace f_u0 := x_u.fr 0; replace f_u1 := x_u.fr 1; replace q_h0 := x_h.c0; replace q_h1 := x_h.c1; replace f_h0 := x_h.fr 0; replace f_h1 := x_h.fr 1; (try (have q_f0 := x_f.c0; have q_f1 := x_f.c1; have f_f0 := x_f.fr 0; have f_f1 := x_f.fr 1))) | (go_at_call 33; (with_reducible refine (ZSub_any (za.keep (below_alloc v16 (.cells #[.bool false, .slice none 0 0] 24))) (s1.keep (below_alloc v16 (.cells #[.bool false, .slice none 0 0] 24))).zr 23 (by omega) (by omega) (by omega)).mono ?_); rintro e v17 ⟨A5, n5, c5, rfl, s2, hb1⟩; have x_f := (Bx.new v16 false none 0 0).keep hb1; replace hb1 := bthen (below_alloc v16 (.cells #[.bool false, .slice none 0 0] 24)) hb1; replace hv := bthen hv hb1; have hvs_v17 := hv.size; replace x_a := x_a.keep hb1; replace x_b := x_b.keep hb1; replace x_q := x_q.keep hb1; replace x_r := x_r.keep hb1; replace x_n := x_n.keep hb1; replace x_u := x_u.keep hb1; replace x_h := x_h.keep hb1; replace za := za.keep hb1; replace zb := zb.keep hb1; replace z_q := z_q.keep hb1; replace z_r := z_r.keep hb1; replace z_n := z_n.keep hb1; replace z_u := z_u.keep hb1; replace z_h := z_h.keep hb1; replace s1 := s1.keep hb1; replace hb := bthen hb hb1; clear hb1; replace q_a0 := x_a.c0; replace q_a1 := x_a.c1; replace f_a0 := x_a.fr 0; replace f_a1 := x_a.fr 1; replace q_b0 := x_b.c0; replace q_b1 := x_b.c1; replace f_b0 := x_b.fr 0; replace f_b1 := x_b.fr 1; replace q_q0 := x_q.c0; replace q_q1 := x_q.c1; replace f_q0 := x_q.fr 0; replace f_q1 := x_q.fr 1; replace q_r0 := x_r.c0; replace q_r1 := x_r.c1; replace f_r0 := x_r.fr 0; replace f_r1 := x_r.fr 1; replace q_n0 := x_n.c0; replace q_n1 := x_n.c1; replace f_n0 := x_n.fr 0; replace f_n1 := x_n.fr 1; replace q_u0 := x_u.c0; replace q_u1 := x_u.c1; replace f_u0 := x_u.fr 0; replace f_u1 := x_u.fr 1; replace q_h0 := x_h.c0; replace q_h1 := x_h.c1; replace f_h0 := x_h.fr 0; replace f_h1 := x_h.fr 1; (try (have q_f0 := x_f.c0; have q_f1 := x_f.c1; have f_f0 := x_f.fr 0; have f_f1 := x_f.fr 1))) | (go_at_call 39; (with_reducible refine (ZAbs_any s2.zr 23 (by omega)).mono ?_); rintro e v18 ⟨A6, n6, c6, rfl, s3, hb1⟩; (try replace x_f := x_f.keep hb1); replace hv := bthen hv hb1; have hvs_v18 := hv.size; replace x_a := x_a.keep hb1; replace x_b := x_b.keep hb1; replace x_q := x_q.keep hb1; replace x_r := x_r.keep hb1; replace x_n := x_n.keep hb1; replace x_u := x_u.keep hb1; replace x_h := x_h.keep hb1; replace za := za.keep hb1; replace zb := zb.keep hb1; replace z_q := z_q.keep hb1; replace z_r := z_r.keep hb1; replace z_n := z_n.keep hb1; replace z_u := z_u.keep hb1; replace z_h := z_h.keep hb1; replace s1 := s1.keep hb1; replace s2 := s2.keep hb1; replace hb := bthen hb hb1; clear hb1; replace q_a0 := x_a.c0; replace q_a1 := x_a.c1; replace f_a0 := x_a.fr 0; replace f_a1 := x_a.fr 1; replace q_b0 := x_b.c0; replace q_b1 := x_b.c1; replace f_b0 := x_b.fr 0; replace f_b1 := x_b.fr 1; replace q_q0 := x_q.c0; replace q_q1 := x_q.c1; replace f_q0 := x_q.fr 0; replace f_q1 := x_q.fr 1; replace q_r0 := x_r.c0; replace q_r1 := x_r.c1; replace f_r0 := x_r.fr 0; replace f_r1 := x_r.fr 1; replace q_n0 := x_n.c0; replace q_n1 := x_n.c1; replace f_n0 := x_n.fr 0; replace f_n1 := x_n.fr 1; replace q_u0 := x_u.c0; replace q_u1 := x_u.c1; replace f_u0 := x_u.fr 0; replace f_u1 := x_u.fr 1; replace q_h0 := x_h.c0; replace q_h1 := x_h.c1; replace f_h0 := x_h.fr 0; replace f_h1 := x_h.fr 1; (try (have q_f0 := x_f.c0; have q_f1 := x_f.c1; have f_f0 := x_f.fr 0; have f_f1 := x_f.fr 1))) | (go_at_call 39; (with_reducible refine (ZAbs_any (s2.keep (below_alloc v17 (.cells #[.bool false, .slice none 0 0] 24))).zr 23 (by omega)).mono ?_); rintro e v18 ⟨A6, n6, c6, rfl, s3, hb1⟩; have x_f := (Bx.new v17 false none 0 0).keep hb1; replace hb1 := bthen (below_alloc v17 (.cells #[.bool false, .slice none 0 0] 24)) hb1; replace hv := bthen hv hb1; have hvs_v18 := hv.size; replace x_a := x_a.keep hb1; replace x_b := x_b.keep hb1; replace x_q := x_q.keep hb1; replace x_r := x_r.keep hb1; replace x_n := x_n.keep hb1; replace x_u := x_u.keep hb1; replace x_h := x_h.keep hb1; replace za := za.keep hb1; replace zb := zb.keep hb1; replace z_q := z_q.keep hb1; replace z_r := z_r.keep hb1; replace z_n := z_n.keep hb1; replace z_u := z_u.keep hb1; replace z_h := z_h.keep hb1; replace s1 := s1.keep hb1; replace s2 := s2.keep hb1; replace hb := bthen hb hb1; clear hb1; replace q_a0 := x_a.c0; replace q_a1 := x_a.c1; replace f_a0 := x_a.fr 0; replace f_a1 := x_a.fr 1; replace q_b0 := x_b.c0; replace q_b1 := x_b.c1; replace f_b0 := x_b.fr 0; replace f_b1 := x_b.fr 1; replace q_q0 := x_q.c0; replace q_q1 := x_q.c1; replace f_q0 := x_q.fr 0; replace f_q1 := x_q.fr 1; replace q_r0 := x_r.c0; replace q_r1 := x_r.c1; replace f_r0 := x_r.fr 0; replace f_r1 := x_r.fr 1; replace q_n0 := x_n.c0; replace q_n1 := x_n.c1; replace f_n0 := x_n.fr 0; replace f_n1 := x_n.fr 1; replace q_u0 := x_u.c0; replace q_u1 := x_u.c1; replace f_u0 := x_u.fr 0; replace f_u1 := x_u.fr 1; replace q_h0 := x_h.c0; replace q_h1 := x_h.c1; replace f_h0 := x_h.fr 0; replace f_h1 := x_h.fr 1; (try (have q_f0 := x_f.c0; have q_f1 := x_f.c1; have f_f0 := x_f.fr 0; have f_f1 := x_f.fr 1))) | (go_at_call 49; (with_reducible refine (ZShl_any s3.zr 1 151 (by omega) (by omega)).mono ?_); rintro e v19 ⟨A7, n7, c7, rfl, s4, hb1⟩; (try replace x_f := x_f.keep hb1); replace hv := bthen hv hb1; have hvs_v19 := hv.size; replace x_a := x_a.keep hb1; replace x_b := x_b.keep hb1; replace x_q := x_q.keep hb1; replace x_r := x_r.keep hb1; replace x_n := x_n.keep hb1; replace x_u := x_u.keep hb1; replace x_h := x_h.keep hb1; replace za := za.keep hb1; replace zb := zb.keep hb1; replace z_q := z_q.keep hb1; replace z_r := z_r.keep hb1; replace z_n := z_n.keep hb1; replace z_u := z_u.keep hb1; replace z_h := z_h.keep hb1; replace s1 := s1.keep hb1; replace s2 := s2.keep hb1; replace s3 := s3.keep hb1; replace hb := bthen hb hb1; clear hb1; replace q_a0 := x_a.c0; replace q_a1 := x_a.c1; replace f_a0 := x_a.fr 0; replace f_a1 := x_a.fr 1; replace q_b0 := x_b.c0; replace q_b1 := x_b.c1; replace f_b0 := x_b.fr 0; replace f_b1 := x_b.fr 1; replace q_q0 := x_q.c0; replace q_q1 := x_q.c1; replace f_q0 := x_q.fr 0; replace f_q1 := x_q.fr 1; replace q_r0 := x_r.c0; replace q_r1 := x_r.c1; replace f_r0 := x_r.fr 0; replace f_r1 := x_r.fr 1; replace q_n0 := x_n.c0; replace q_n1 := x_n.c1; replace f_n0 := x_n.fr 0; replace f_n1 := x_n.fr 1; replace q_u0 := x_u.c0; replace q_u1 := x_u.c1; replace f_u0 := x_u.fr 0; replace f_u1 := x_u.fr 1; replace q_h0 := x_h.c0; replace q_h1 := x_h.c1; replace f_h0 := x_h.fr 0; replace f_h1 := x_h.fr 1; (try (have q_f0 := x_f.c0; have q_f1 := x_f.c1; have f_f0 := x_f.fr 0; have f_f1 := x_f.fr 1))) | (go_at_call 49; (with_reducible refine (ZShl_any (s3.keep (below_alloc v18 (.cells #[.bool false, .slice none 0 0] 24))).zr 1 151 (by omega) (by omega)).mono ?_); rintro e v19 ⟨A7, n7, c7, rfl, s4, hb1⟩; have x_f := (Bx.new v18 false none 0 0).keep hb1; replace hb1 := bthen (below_alloc v18 (.cells #[.bool false, .slice none 0 0] 24)) hb1; replace hv := bthen hv hb1; have hvs_v19 := hv.size; replace x_a := x_a.keep hb1; replace x_b := x_b.keep hb1; replace x_q := x_q.keep hb1; replace x_r := x_r.keep hb1; replace x_n := x_n.keep hb1; replace x_u := x_u.keep hb1; replace x_h := x_h.keep hb1; replace za := za.keep hb1; replace zb := zb.keep hb1; replace z_q := z_q.keep hb1; replace z_r := z_r.keep hb1; replace z_n := z_n.keep hb1; replace z_u := z_u.keep hb1; replace z_h := z_h.keep hb1; replace s1 := s1.keep hb1; replace s2 := s2.keep hb1; replace s3 := s3.keep hb1; replace hb := bthen hb hb1; clear hb1; replace q_a0 := x_a.c0; replace q_a1 := x_a.c1; replace f_a0 := x_a.fr 0; replace f_a1 := x_a.fr 1; replace q_b0 := x_b.c0; replace q_b1 := x_b.c1; replace f_b0 := x_b.fr 0; replace f_b1 := x_b.fr 1; replace q_q0 := x_q.c0; replace q_q1 := x_q.c1; replace f_q0 := x_q.fr 0; replace f_q1 := x_q.fr 1; replace q_r0 := x_r.c0; replace q_r1 := x_r.c1; replace f_r0 := x_r.fr 0; replace f_r1 := x_r.fr 1; replace q_n0 := x_n.c0; replace q_n1 := x_n.c1; replace f_n0 := x_n.fr 0; replace f_n1 := x_n.fr 1; replace q_u0 := x_u.c0; replace q_u1 := x_u.c1; replace f_u0 := x_u.fr 0; replace f_u1 := x_u.fr 1; replace q_h0 := x_h.c0; replace q_h1 := x_h.c1; replace f_h0 := x_h.fr 0; replace f_h1 := x_h.fr 1; (try (have q_f0 := x_f.c0; have q_f1 := x_f.c1; have f_f0 := x_f.fr 0; have f_f1 := x_f.fr 1))))
      all_goals go_wp2_with fail
      all_goals go_meet
      all_goals first | exact BxNew.new hv s4 | exact BxNew.put hv x_f (by omega) s4
    case rest =>
      obtain ⟨g20, A21, n21, c21, rfl, x_f, z_f, e_f, hb1⟩ := hcut
      clear hv
      replace x_a := x_a.keep hb1
      replace x_b := x_b.keep hb1
      replace x_q := x_q.keep hb1
      replace x_r := x_r.keep hb1
      replace x_n := x_n.keep hb1
      replace x_u := x_u.keep hb1
      replace x_h := x_h.keep hb1
      replace za := za.keep hb1
      replace zb := zb.keep hb1
      replace z_q := z_q.keep hb1
      replace z_r := z_r.keep hb1
      replace z_n := z_n.keep hb1
      replace z_u := z_u.keep hb1
      replace z_h := z_h.keep hb1
      replace hb := bthen hb hb1
      clear hb1
      replace q_a0 := x_a.c0; replace q_a1 := x_a.c1; replace f_a0 := x_a.fr 0; replace f_a1 := x_a.fr 1
      replace q_b0 := x_b.c0; replace q_b1 := x_b.c1; replace f_b0 := x_b.fr 0; replace f_b1 := x_b.fr 1
      replace q_q0 := x_q.c0; replace q_q1 := x_q.c1; replace f_q0 := x_q.fr 0; replace f_q1 := x_q.fr 1
      replace q_r0 := x_r.c0; replace q_r1 := x_r.c1; replace f_r0 := x_r.fr 0; replace f_r1 := x_r.fr 1
      replace q_n0 := x_n.c0; replace q_n1 := x_n.c1; replace f_n0 := x_n.fr 0; replace f_n1 := x_n.fr 1
      replace q_u0 := x_u.c0; replace q_u1 := x_u.c1; replace f_u0 := x_u.fr 0; replace f_u1 := x_u.fr 1
      replace q_h0 := x_h.c0; replace q_h1 := x_h.c1; replace f_h0 := x_h.fr 0; replace f_h1 := x_h.fr 1
      clear q_a0 q_a1 f_a0 f_a1 q_b0 q_b1 f_b0 f_b1 q_q0 q_q1 f_q0 f_q1 q_r0 q_r1 f_r0 f_r1 q_n0 q_n1 f_n0 f_n1 q_u0 q_u1 f_u0 f_u1 q_h0 q_h1 f_h0 f_h1
      generalize wc = v22 at *
      have q_a0 := x_a.c0; have q_a1 := x_a.c1; have f_a0 := x_a.fr 0; have f_a1 := x_a.fr 1
      have q_b0 := x_b.c0; have q_b1 := x_b.c1; have f_b0 := x_b.fr 0; have f_b1 := x_b.fr 1
      have q_q0 := x_q.c0; have q_q1 := x_q.c1; have f_q0 := x_q.fr 0; have f_q1 := x_q.fr 1
      have q_r0 := x_r.c0; have q_r1 := x_r.c1; have f_r0 := x_r.fr 0; have f_r1 := x_r.fr 1
      have q_n0 := x_n.c0; have q_n1 := x_n.c1; have f_n0 := x_n.fr 0; have f_n1 := x_n.fr 1
      have q_u0 := x_u.c0; have q_u1 := x_u.c1; have f_u0 := x_u.fr 0; have f_u1 := x_u.fr 1
      have q_h0 := x_h.c0; have q_h1 := x_h.c1; have f_h0 := x_h.fr 0; have f_h1 := x_h.fr 1
      have q_f0 := x_f.c0; have q_f1 := x_f.c1; have f_f0 := x_f.fr 0; have f_f1 := x_f.fr 1
      go_upto_region 11 with fail
      have hv := Below.refl v22.heap.size v22
      have l_a_o := x_a.lt
      have l_b_o := x_b.lt
      have l_q_o := x_q.lt
      have l_r_o := x_r.lt
      have l_n_o := x_n.lt
      have l_u_o := x_u.lt
      have l_h_o := x_h.lt
      have l_f_o := x_f.lt
      go_cut [15] (fun s9 wx => BxNew v22 (UU * B - A) 23 s9 wx)
      case first =>
        go_region_held3 (fun w' => w'.cell? ⟨w.heap.size, 0, none⟩ = some (.bool b) ∧ w'.cell? ⟨w.heap.size, 1, none⟩ = some (.slice Aa_ na_ ca_) ∧ w'.cell? ⟨v12.heap.size, 0, none⟩ = some (.bool (ngB UU)) ∧ w'.cell? ⟨v12.heap.size, 1, none⟩ = some (.slice Au nu cu) ∧ w'.cell? ⟨w.heap.size + 1, 0, none⟩ = some (.bool b2) ∧ w'.cell? ⟨w.heap.size + 1, 1, none⟩ = some (.slice Ab_ nb_ cb_))
          (first | (with_reducible exact ⟨x_a.c0, x_a.c1, x_u.c0, x_u.c1, x_b.c0, x_b.c1⟩) | (with_reducible exact ⟨(x_a.alloc _).c0, (x_a.alloc _).c1, (x_u.alloc _).c0, (x_u.alloc _).c1, (x_b.alloc _).c0, (x_b.alloc _).c1⟩) | (with_reducible exact ⟨(x_a.aside (by omega)).c0, (x_a.aside (by omega)).c1, (x_u.aside (by omega)).c0, (x_u.aside (by omega)).c1, (x_b.aside (by omega)).c0, (x_b.aside (by omega)).c1⟩) | (with_reducible exact ⟨((x_a.alloc _).aside (by omega)).c0, ((x_a.alloc _).aside (by omega)).c1, ((x_u.alloc _).aside (by omega)).c0, ((x_u.alloc _).aside (by omega)).c1, ((x_b.alloc _).aside (by omega)).c0, ((x_b.alloc _).aside (by omega)).c1⟩) | go_keep)
          (first | (go_at_call 35; (with_reducible refine (ZMul_any z_u.drw.zr zb.drw 22 (by omega) (by omega)).mono ?_); rintro e v23 ⟨A4, n4, c4, rfl, s1, hb1⟩; replace hb1 := undrew hb1; (try replace x_o := x_o.keep hb1); replace hv := bthen hv hb1; have hvs_v23 := hv.size; replace x_a := x_a.keep hb1; replace x_b := x_b.keep hb1; replace x_q := x_q.keep hb1; replace x_r := x_r.keep hb1; replace x_n := x_n.keep hb1; replace x_u := x_u.keep hb1; replace x_h := x_h.keep hb1; replace x_f := x_f.keep hb1; replace za := za.keep hb1; replace zb := zb.keep hb1; replace z_q := z_q.keep hb1; replace z_r := z_r.keep hb1; replace z_n := z_n.keep hb1; replace z_u := z_u.keep hb1; replace z_h := z_h.keep hb1; replace z_f := z_f.keep hb1; replace hb := bthen hb hb1; clear hb1; replace q_a0 := x_a.c0; replace q_a1 := x_a.c1; replace f_a0 := x_a.fr 0; replace f_a1 := x_a.fr 1; replace q_b0 := x_b.c0; replace q_b1 := x_b.c1; replace f_b0 := x_b.fr 0; replace f_b1 := x_b.fr 1; replace q_q0 := x_q.c0; replace q_q1 := x_q.c1; replace f_q0 := x_q.fr 0; replace f_q1 := x_q.fr 1; replace q_r0 := x_r.c0; replace q_r1 := x_r.c1; replace f_r0 := x_r.fr 0; replace f_r1 := x_r.fr 1; replace q_n0 := x_n.c0; replace q_n1 := x_n.c1; replace f_n0 := x_n.fr 0; replace f_n1 := x_n.fr 1; replace q_u0 := x_u.c0; replace q_u1 := x_u.c1; replace f_u0 := x_u.fr 0; replace f_u1 := x_u.fr 1; replace q_h0 := x_h.c0; replace q_h1 := x_h.c1; replace f_h0 := x_h.fr 0; replace f_h1 := x_h.fr 1; replace q_f0 := x_f.c0; replace q_f1 := x_f.c1; replace f_f0 := x_f.fr 0; replace f_f1 := x_f.fr 1; (try (have q_o0 := x_o.c0; have q_o1 := x_o.c1; have f_o0 := x_o.fr 0; have f_o1 := x_o.fr 1))) | (go_at_call 35; (with_reducible refine (ZMul_any (z_u.keep (below_alloc v22 (.cells #[.bool false, .slice none 0 0] 24))).drw.zr (zb.keep (below_alloc v22 (.cells #[.bool false, .slice none 0 0] 24))).drw 22 (by omega) (by omega)).mono ?_); rintro e v23 ⟨A4, n4, c4, rfl, s1, hb1⟩; replace hb1 := undrew hb1; have x_o := (Bx.new v22 false none 0 0).keep hb1; replace hb1 := bthen (below_alloc v22 (.cells #[.bool false, .slice none 0 0] 24)) hb1; replace hv := bthen hv hb1; have hvs_v23 := hv.size; replace x_a := x_a.keep hb1; replace x_b := x_b.keep hb1; replace x_q := x_q.keep hb1; replace x_r := x_r.keep hb1; replace x_n := x_n.keep hb1; replace x_u := x_u.keep hb1; replace x_h := x_h.keep hb1; replace x_f := x_f.keep hb1; replace za := za.keep hb1; replace zb := zb.keep hb1; replace z_q := z_q.keep hb1; replace z_r := z_r.keep hb1; replace z_n := z_n.keep hb1; replace z_u := z_u.keep hb1; replace z_h := z_h.keep hb1; replace z_f := z_f.keep hb1; replace hb := bthen hb hb1; clear hb1; replace q_a0 := x_a.c0; replace q_a1 := x_a.c1; replace f_a0 := x_a.fr 0; replace f_a1 := x_a.fr 1; replace q_b0 := x_b.c0; replace q_b1 := x_b.c1; replace f_b0 := x_b.fr 0; replace f_b1 := x_b.fr 1; replace q_q0 := x_q.c0; replace q_q1 := x_q.c1; replace f_q0 := x_q.fr 0; replace f_q1 := x_q.fr 1; replace q_r0 := x_r.c0; replace q_r1 := x_r.c1; replace f_r0 := x_r.fr 0; replace f_r1 := x_r.fr 1; replace q_n0 := x_n.c0; replace q_n1 := x_n.c1; replace f_n0 := x_n.fr 0; replace f_n1 := x_n.fr 1; replace q_u0 := x_u.c0; replace q_u1 := x_u.c1; replace f_u0 := x_u.fr 0; replace f_u1 := x_u.fr 1; replace q_h0 := x_h.c0; replace q_h1 := x_h.c1; replace f_h0 := x_h.fr 0; replace f_h1 := x_h.fr 1; replace q_f0 := x_f.c0; replace q_f1 := x_f.c1; replace f_f0 := x_f.fr 0; replace f_f1 := x_f.fr 1; (try (have q_o0 := x_o.c0; have q_o1 := x_o.c1; have f_o0 := x_o.fr 0; have f_o1 := x_o.fr 1))) | (go_at_call 33; (with_reducible refine (ZSub_any s1.zr za 23 (by omega) (by omega) (by omega)).mono ?_); rintro e v24 ⟨A5, n5, c5, rfl, s2, hb1⟩; (try replace x_o := x_o.keep hb1); replace hv := bthen hv hb1; have hvs_v24 := hv.size; replace x_a := x_a.keep hb1; replace x_b := x_b.keep hb1; replace x_q := x_q.keep hb1; replace x_r := x_r.keep hb1; replace x_n := x_n.keep hb1; replace x_u := x_u.keep hb1; replace x_h := x_h.keep hb1; replace x_f := x_f.keep hb1; replace za := za.keep hb1; replace zb := zb.keep hb1; replace z_q := z_q.keep hb1; replace z_r := z_r.keep hb1; replace z_n := z_n.keep hb1; replace z_u := z_u.keep hb1; replace z_h := z_h.keep hb1; replace z_f := z_f.keep hb1; replace s1 := s1.keep hb1; replace hb := bthen hb hb1; clear hb1; replace q_a0 := x_a.c0; replace q_a1 := x_a.c1; replace f_a0 := x_a.fr 0; replace f_a1 := x_a.fr 1; replace q_b0 := x_b.c0; replace q_b1 := x_b.c1; replace f_b0 := x_b.fr 0; replace f_b1 := x_b.fr 1; replace q_q0 := x_q.c0; replace q_q1 := x_q.c1; replace f_q0 := x_q.fr 0; replace f_q1 := x_q.fr 1; replace q_r0 := x_r.c0; replace q_r1 := x_r.c1; replace f_r0 := x_r.fr 0; replace f_r1 := x_r.fr 1; replace q_n0 := x_n.c0; replace q_n1 := x_n.c1; replace f_n0 := x_n.fr 0; replace f_n1 := x_n.fr 1; replace q_u0 := x_u.c0; replace q_u1 := x_u.c1; replace f_u0 := x_u.fr 0; replace f_u1 := x_u.fr 1; replace q_h0 := x_h.c0; replace q_h1 := x_h.c1; replace f_h0 := x_h.fr 0; replace f_h1 := x_h.fr 1; replace q_f0 := x_f.c0; replace q_f1 := x_f.c1; replace f_f0 := x_f.fr 0; replace f_f1 := x_f.fr 1; (try (have q_o0 := x_o.c0; have q_o1 := x_o.c1; have f_o0 := x_o.fr 0; have f_o1 := x_o.fr 1))) | (go_at_call 33; (with_reducible refine (ZSub_any (s1.keep (below_alloc v23 (.cells #[.bool false, .slice none 0 0] 24))).zr (za.keep (below_alloc v23 (.cells #[.bool false, .slice none 0 0] 24))) 23 (by omega) (by omega) (by omega)).mono ?_); rintro e v24 ⟨A5, n5, c5, rfl, s2, hb1⟩; have x_o := (Bx.new v23 false none 0 0).keep hb1; replace hb1 := bthen (below_alloc v23 (.cells #[.bool false, .slice none 0 0] 24)) hb1; replace hv := bthen hv hb1; have hvs_v24 := hv.size; replace x_a := x_a.keep hb1; replace x_b := x_b.keep hb1; replace x_q := x_q.keep hb1; replace x_r := x_r.keep hb1; replace x_n := x_n.keep hb1; replace x_u := x_u.keep hb1; replace x_h := x_h.keep hb1; replace x_f := x_f.keep hb1; replace za := za.keep hb1; replace zb := zb.keep hb1; replace z_q := z_q.keep hb1; replace z_r := z_r.keep hb1; replace z_n := z_n.keep hb1; replace z_u := z_u.keep hb1; replace z_h := z_h.keep hb1; replace z_f := z_f.keep hb1; replace s1 := s1.keep hb1; replace hb := bthen hb hb1; clear hb1; replace q_a0 := x_a.c0; replace q_a1 := x_a.c1; replace f_a0 := x_a.fr 0; replace f_a1 := x_a.fr 1; replace q_b0 := x_b.c0; replace q_b1 := x_b.c1; replace f_b0 := x_b.fr 0; replace f_b1 := x_b.fr 1; replace q_q0 := x_q.c0; replace q_q1 := x_q.c1; replace f_q0 := x_q.fr 0; replace f_q1 := x_q.fr 1; replace q_r0 := x_r.c0; replace q_r1 := x_r.c1; replace f_r0 := x_r.fr 0; replace f_r1 := x_r.fr 1; replace q_n0 := x_n.c0; replace q_n1 := x_n.c1; replace f_n0 := x_n.fr 0; replace f_n1 := x_n.fr 1; replace q_u0 := x_u.c0; replace q_u1 := x_u.c1; replace f_u0 := x_u.fr 0; replace f_u1 := x_u.fr 1; replace q_h0 := x_h.c0; replace q_h1 := x_h.c1; replace f_h0 := x_h.fr 0; replace f_h1 := x_h.fr 1; replace q_f0 := x_f.c0; replace q_f1 := x_f.c1; replace f_f0 := x_f.fr 0; replace f_f1 := x_f.fr 1; (try (have q_o0 := x_o.c0; have q_o1 := x_o.c1; have f_o0 := x_o.fr 0; have f_o1 := x_o.fr 1))))
        all_goals go_wp2_with fail
        all_goals go_meet
        all_goals first | exact BxNew.new hv s2 | exact BxNew.put hv x_o (by omega) s2
      case rest =>
        obtain ⟨g25, A26, n26, c26, rfl, x_o, z_o, e_o, hb1⟩ := hcut
        clear hv
        replace x_a := x_a.keep hb1
        replace x_b := x_b.keep hb1
        replace x_q := x_q.keep hb1
        replace x_r := x_r.keep hb1
        replace x_n := x_n.keep hb1
        replace x_u := x_u.keep hb1
        replace x_h := x_h.keep hb1
        replace x_f := x_f.keep hb1
        replace za := za.keep hb1
        replace zb := zb.keep hb1
        replace z_q := z_q.keep hb1
        replace z_r := z_r.keep hb1
        replace z_n := z_n.keep hb1
        replace z_u := z_u.keep hb1
        replace z_h := z_h.keep hb1
        replace z_f := z_f.keep hb1
        replace hb := bthen hb hb1
        clear hb1
        replace q_a0 := x_a.c0; replace q_a1 := x_a.c1; replace f_a0 := x_a.fr 0; replace f_a1 := x_a.fr 1
        replace q_b0 := x_b.c0; replace q_b1 := x_b.c1; replace f_b0 := x_b.fr 0; replace f_b1 := x_b.fr 1
        replace q_q0 := x_q.c0; replace q_q1 := x_q.c1; replace f_q0 := x_q.fr 0; replace f_q1 := x_q.fr 1
        replace q_r0 := x_r.c0; replace q_r1 := x_r.c1; replace f_r0 := x_r.fr 0; replace f_r1 := x_r.fr 1
        replace q_n0 := x_n.c0; replace q_n1 := x_n.c1; replace f_n0 := x_n.fr 0; replace f_n1 := x_n.fr 1
        replace q_u0 := x_u.c0; replace q_u1 := x_u.c1; replace f_u0 := x_u.fr 0; replace f_u1 := x_u.fr 1
        replace q_h0 := x_h.c0; replace q_h1 := x_h.c1; replace f_h0 := x_h.fr 0; replace f_h1 := x_h.fr 1
        replace q_f0 := x_f.c0; replace q_f1 := x_f.c1; replace f_f0 := x_f.fr 0; replace f_f1 := x_f.fr 1
        clear q_a0 q_a1 f_a0 f_a1 q_b0 q_b1 f_b0 f_b1 q_q0 q_q1 f_q0 f_q1 q_r0 q_r1 f_r0 f_r1 q_n0 q_n1 f_n0 f_n1 q_u0 q_u1 f_u0 f_u1 q_h0 q_h1 f_h0 f_h1 q_f0 q_f1 f_f0 f_f1
        generalize wc = v27 at *
        have q_a0 := x_a.c0; have q_a1 := x_a.c1; have f_a0 := x_a.fr 0; have f_a1 := x_a.fr 1
        have q_b0 := x_b.c0; have q_b1 := x_b.c1; have f_b0 := x_b.fr 0; have f_b1 := x_b.fr 1
        have q_q0 := x_q.c0; have q_q1 := x_q.c1; have f_q0 := x_q.fr 0; have f_q1 := x_q.fr 1
        have q_r0 := x_r.c0; have q_r1 := x_r.c1; have f_r0 := x_r.fr 0; have f_r1 := x_r.fr 1
        have q_n0 := x_n.c0; have q_n1 := x_n.c1; have f_n0 := x_n.fr 0; have f_n1 := x_n.fr 1
        have q_u0 := x_u.c0; have q_u1 := x_u.c1; have f_u0 := x_u.fr 0; have f_u1 := x_u.fr 1
        have q_h0 := x_h.c0; have q_h1 := x_h.c1; have f_h0 := x_h.fr 0; have f_h1 := x_h.fr 1
        have q_f0 := x_f.c0; have q_f1 := x_f.c1; have f_f0 := x_f.fr 0; have f_f1 := x_f.fr 1
        have q_o0 := x_o.c0; have q_o1 := x_o.c1; have f_o0 := x_o.fr 0; have f_o1 := x_o.fr 1
        generalize hF9 : ((A - NN * B).natAbs : Int) * 2 ^ sc 1 = FF at *
        clear hF9
        by_cases hneg : B < 0
        · have hsn : SB < 0 := by rw [← HSB.out]; exact sgnI_lt0.2 hneg
          obtain ⟨hu0, hu1⟩ := HUP.out.1 (by omega)
          have c5 : 0 ≤ sgnI (-(UU * B - A)) := sgn_ge hu0
          have c6 : sgnI (-(UU * B - A) - (B.natAbs : Int)) < 0 := sgn_lt (by omega)
          clear hu0 hu1 HUP hneg
          go_wp2_with fail
          with_reducible refine (ZSign_any zb (by omega)).mono ?_
          rintro e v28 ⟨rfl, hb1⟩
          replace x_a := x_a.keep hb1
          replace x_b := x_b.keep hb1
          replace x_q := x_q.keep hb1
          replace x_r := x_r.keep hb1
          replace x_n := x_n.keep hb1
          replace x_u := x_u.keep hb1
          replace x_h := x_h.keep hb1
          replace x_f := x_f.keep hb1
          replace x_o := x_o.keep hb1
          replace za := za.keep hb1
          replace zb := zb.keep hb1
          replace z_q := z_q.keep hb1
          replace z_r := z_r.keep hb1
          replace z_n := z_n.keep hb1
          replace z_u := z_u.keep hb1
          replace z_h := z_h.keep hb1
          replace z_f := z_f.keep hb1
          replace z_o := z_o.keep hb1
          replace hb := bthen hb hb1
          clear hb1
          replace q_a0 := x_a.c0; replace q_a1 := x_a.c1; replace f_a0 := x_a.fr 0; replace f_a1 := x_a.fr 1
          replace q_b0 := x_b.c0; replace q_b1 := x_b.c1; replace f_b0 := x_b.fr 0; replace f_b1 := x_b.fr 1
          replace q_q0 := x_q.c0; replace q_q1 := x_q.c1; replace f_q0 := x_q.fr 0; replace f_q1 := x_q.fr 1
          replace q_r0 := x_r.c0; replace q_r1 := x_r.c1; replace f_r0 := x_r.fr 0; replace f_r1 := x_r.fr 1
          replace q_n0 := x_n.c0; replace q_n1 := x_n.c1; replace f_n0 := x_n.fr 0; replace f_n1 := x_n.fr 1
          replace q_u0 := x_u.c0; replace q_u1 := x_u.c1; replace f_u0 := x_u.fr 0; replace f_u1 := x_u.fr 1
          replace q_h0 := x_h.c0; replace q_h1 := x_h.c1; replace f_h0 := x_h.fr 0; replace f_h1 := x_h.fr 1
          replace q_f0 := x_f.c0; replace q_f1 := x_f.c1; replace f_f0 := x_f.fr 0; replace f_f1 := x_f.fr 1
          replace q_o0 := x_o.c0; replace q_o1 := x_o.c1; replace f_o0 := x_o.fr 0; replace f_o1 := x_o.fr 1
          rw [HSB.out]
          go_wp2_with fail
          with_reducible refine (ZNeg_any z_o.zr 23 (by omega)).mono ?_
          rintro e v29 ⟨Ao, no, co, rfl, z_p, hb1⟩
          replace x_a := x_a.keep hb1
          replace x_b := x_b.keep hb1
          replace x_q := x_q.keep hb1
          replace x_r := x_r.keep hb1
          replace x_n := x_n.keep hb1
          replace x_u := x_u.keep hb1
          replace x_h := x_h.keep hb1
          replace x_f := x_f.keep hb1
          replace x_o := x_o.keep hb1
          replace za := za.keep hb1
          replace zb := zb.keep hb1
          replace z_q := z_q.keep hb1
          replace z_r := z_r.keep hb1
          replace z_n := z_n.keep hb1
          replace z_u := z_u.keep hb1
          replace z_h := z_h.keep hb1
          replace z_f := z_f.keep hb1
          replace z_o := z_o.keep hb1
          replace hb := bthen hb hb1
          clear hb1
          replace q_a0 := x_a.c0; replace q_a1 := x_a.c1; replace f_a0 := x_a.fr 0; replace f_a1 := x_a.fr 1
          replace q_b0 := x_b.c0; replace q_b1 := x_b.c1; replace f_b0 := x_b.fr 0; replace f_b1 := x_b.fr 1
          replace q_q0 := x_q.c0; replace q_q1 := x_q.c1; replace f_q0 := x_q.fr 0; replace f_q1 := x_q.fr 1
          replace q_r0 := x_r.c0; replace q_r1 := x_r.c1; replace f_r0 := x_r.fr 0; replace f_r1 := x_r.fr 1
          replace q_n0 := x_n.c0; replace q_n1 := x_n.c1; replace f_n0 := x_n.fr 0; replace f_n1 := x_n.fr 1
          replace q_u0 := x_u.c0; replace q_u1 := x_u.c1; replace f_u0 := x_u.fr 0; replace f_u1 := x_u.fr 1
          replace q_h0 := x_h.c0; replace q_h1 := x_h.c1; replace f_h0 := x_h.fr 0; replace f_h1 := x_h.fr 1
          replace q_f0 := x_f.c0; replace q_f1 := x_f.c1; replace f_f0 := x_f.fr 0; replace f_f1 := x_f.fr 1
          replace q_o0 := x_o.c0; replace q_o1 := x_o.c1; replace f_o0 := x_o.fr 0; replace f_o1 := x_o.fr 1
          clear z_o
          go_wp2_with fail
          replace x_a := x_a.aside (b' := (ngB (-(UU * B - A)))) (A' := Ao) (n' := no) (c' := co) (g := g25) (by omega)
          replace x_b := x_b.aside (b' := (ngB (-(UU * B - A)))) (A' := Ao) (n' := no) (c' := co) (g := g25) (by omega)
          replace x_q := x_q.aside (b' := (ngB (-(UU * B - A)))) (A' := Ao) (n' := no) (c' := co) (g := g25) (by omega)
          replace x_r := x_r.aside (b' := (ngB (-(UU * B - A)))) (A' := Ao) (n' := no) (c' := co) (g := g25) (by omega)
          replace x_n := x_n.aside (b' := (ngB (-(UU * B - A)))) (A' := Ao) (n' := no) (c' := co) (g := g25) (by omega)
          replace x_u := x_u.aside (b' := (ngB (-(UU * B - A)))) (A' := Ao) (n' := no) (c' := co) (g := g25) (by omega)
          replace x_h := x_h.aside (b' := (ngB (-(UU * B - A)))) (A' := Ao) (n' := no) (c' := co) (g := g25) (by omega)
          replace x_f := x_f.aside (b' := (ngB (-(UU * B - A)))) (A' := Ao) (n' := no) (c' := co) (g := g25) (by omega)
          replace za := za.put (b' := (ngB (-(UU * B - A)))) (A' := Ao) (n' := no) (c' := co) x_o
          replace zb := zb.put (b' := (ngB (-(UU * B - A)))) (A' := Ao) (n' := no) (c' := co) x_o
          replace z_q := z_q.put (b' := (ngB (-(UU * B - A)))) (A' := Ao) (n' := no) (c' := co) x_o
          replace z_r := z_r.put (b' := (ngB (-(UU * B - A)))) (A' := Ao) (n' := no) (c' := co) x_o
          replace z_n := z_n.put (b' := (ngB (-(UU * B - A)))) (A' := Ao) (n' := no) (c' := co) x_o
          replace z_u := z_u.put (b' := (ngB (-(UU * B - A)))) (A' := Ao) (n' := no) (c' := co) x_o
          replace z_h := z_h.put (b' := (ngB (-(UU * B - A)))) (A' := Ao) (n' := no) (c' := co) x_o
          replace z_f := z_f.put (b' := (ngB (-(UU * B - A)))) (A' := Ao) (n' := no) (c' := co) x_o
          replace z_p := z_p.put (b' := (ngB (-(UU * B - A)))) (A' := Ao) (n' := no) (c' := co) x_o
          replace hb := put_below (g := g25) hb (by omega) (.bool (ngB (-(UU * B - A)))) (.slice Ao no co)
          replace x_o := x_o.put (ngB (-(UU * B - A))) Ao no co
          clear q_a0 q_a1 f_a0 f_a1 q_b0 q_b1 f_b0 f_b1 q_q0 q_q1 f_q0 f_q1 q_r0 q_r1 f_r0 f_r1 q_n0 q_n1 f_n0 f_n1 q_u0 q_u1 f_u0 f_u1 q_h0 q_h1 f_h0 f_h1 q_f0 q_f1 f_f0 f_f1 q_o0 q_o1 f_o0 f_o1
          generalize (v29.setCell ⟨g25, 0, none⟩ (.bool (ngB (-(UU * B - A))))).setCell ⟨g25, 1, none⟩ (.slice Ao no co) = v30 at *
          have q_a0 := x_a.c0; have q_a1 := x_a.c1; have f_a0 := x_a.fr 0; have f_a1 := x_a.fr 1
          have q_b0 := x_b.c0; have q_b1 := x_b.c1; have f_b0 := x_b.fr 0; have f_b1 := x_b.fr 1
          have q_q0 := x_q.c0; have q_q1 := x_q.c1; have f_q0 := x_q.fr 0; have f_q1 := x_q.fr 1
          have q_r0 := x_r.c0; have q_r1 := x_r.c1; have f_r0 := x_r.fr 0; have f_r1 := x_r.fr 1
          have q_n0 := x_n.c0; have q_n1 := x_n.c1; have f_n0 := x_n.fr 0; have f_n1 := x_n.fr 1
          have q_u0 := x_u.c0; have q_u1 := x_u.c1; have f_u0 := x_u.fr 0; have f_u1 := x_u.fr 1
          have q_h0 := x_h.c0; have q_h1 := x_h.c1; have f_h0 := x_h.fr 0; have f_h1 := x_h.fr 1
          have q_f0 := x_f.c0; have q_f1 := x_f.c1; have f_f0 := x_f.fr 0; have f_f1 := x_f.fr 1
          have q_o0 := x_o.c0; have q_o1 := x_o.c1; have f_o0 := x_o.fr 0; have f_o1 := x_o.fr 1
          generalize hO9 : -(UU * B - A) = OO at *
          clear hO9
          have c1 := C1.out; have c2 := C2.out; have c3 := C3.out
          clear C1 C2 C3
          skip
          generalize hS1 : sgnI R = S1 at *
          have HS1 := Lib.hid hS1; clear hS1
          skip
          generalize hS2 : sgnI (R - (B.natAbs : Int)) = S2 at *
          have HS2 := Lib.hid hS2; clear hS2
          skip
          generalize hS3 : sgnI (FF - (B.natAbs : Int)) = S3 at *
          have HS3 := Lib.hid hS3; clear hS3
          skip
          generalize hS5 : sgnI OO = S5 at *
          have HS5 := Lib.hid hS5; clear hS5
          skip
          generalize hS6 : sgnI (OO - (B.natAbs : Int)) = S6 at *
          have HS6 := Lib.hid hS6; clear hS6
          skip
          go_region_held3 (fun w' => w'.cell? ⟨v7.heap.size, 0, none⟩ = some (.bool (ngB Q)) ∧ w'.cell? ⟨v7.heap.size, 1, none⟩ = some (.slice Aq nq cq) ∧ w'.cell? ⟨w.heap.size + 1, 0, none⟩ = some (.bool b2) ∧ w'.cell? ⟨w.heap.size + 1, 1, none⟩ = some (.slice Ab_ nb_ cb_) ∧ w'.cell? ⟨v7.heap.size + 1, 0, none⟩ = some (.bool (ngB R)) ∧ w'.cell? ⟨v7.heap.size + 1, 1, none⟩ = some (.slice Ar nr cr) ∧ w'.cell? ⟨w.heap.size, 0, none⟩ = some (.bool b) ∧ w'.cell? ⟨w.heap.size, 1, none⟩ = some (.slice Aa_ na_ ca_) ∧ w'.cell? ⟨v14.heap.size, 0, none⟩ = some (.bool (ngB (B.natAbs : Int))) ∧ w'.cell? ⟨v14.heap.size, 1, none⟩ = some (.slice Ah nh ch) ∧ w'.cell? ⟨g20, 0, none⟩ = some (.bool (ngB FF)) ∧ w'.cell? ⟨g20, 1, none⟩ = some (.slice A21 n21 c21) ∧ w'.cell? ⟨g25, 0, none⟩ = some (.bool (ngB OO)) ∧ w'.cell? ⟨g25, 1, none⟩ = some (.slice Ao no co))
            (first | (with_reducible exact ⟨x_q.c0, x_q.c1, x_b.c0, x_b.c1, x_r.c0, x_r.c1, x_a.c0, x_a.c1, x_h.c0, x_h.c1, x_f.c0, x_f.c1, x_o.c0, x_o.c1⟩) | (with_reducible exact ⟨(x_q.aside (by omega)).c0, (x_q.aside (by omega)).c1, (x_b.aside (by omega)).c0, (x_b.aside (by omega)).c1, (x_r.aside (by omega)).c0, (x_r.aside (by omega)).c1, (x_a.aside (by omega)).c0, (x_a.aside (by omega)).c1, (x_h.aside (by omega)).c0, (x_h.aside (by omega)).c1, (x_f.aside (by omega)).c0, (x_f.aside (by omega)).c1, (x_o.aside (by omega)).c0, (x_o.aside (by omega)).c1⟩) | (with_reducible exact ⟨((x_q.aside (by omega)).aside (by omega)).c0, ((x_q.aside (by omega)).aside (by omega)).c1, ((x_b.aside (by omega)).aside (by omega)).c0, ((x_b.aside (by omega)).aside (by omega)).c1, ((x_r.aside (by omega)).aside (by omega)).c0, ((x_r.aside (by omega)).aside (by omega)).c1, ((x_a.aside (by omega)).aside (by omega)).c0, ((x_a.aside (by omega)).aside (by omega)).c1, ((x_h.aside (by omega)).aside (by omega)).c0, ((x_h.aside (by omega)).aside (by omega)).c1, ((x_f.aside (by omega)).aside (by omega)).c0, ((x_f.aside (by omega)).aside (by omega)).c1, ((x_o.aside (by omega)).aside (by omega)).c0, ((x_o.aside (by omega)).aside (by omega)).c1⟩) | go_keep)
            (first | (go_at_call 35; (with_reducible refine (ZMul_any z_q.zr.drw zb.drw 21 (by omega) (by omega)).mono ?_); rintro e v31 ⟨A4, n4, c4, rfl, s1, hb1⟩; replace hb1 := undrew hb1; replace x_a := x_a.keep hb1; replace x_b := x_b.keep hb1; replace x_q := x_q.keep hb1; replace x_r := x_r.keep hb1; replace x_n := x_n.keep hb1; replace x_u := x_u.keep hb1; replace x_h := x_h.keep hb1; replace x_f := x_f.keep hb1; replace x_o := x_o.keep hb1; replace za := za.keep hb1; replace zb := zb.keep hb1; replace z_q := z_q.keep hb1; replace z_r := z_r.keep hb1; replace z_n := z_n.keep hb1; replace z_u := z_u.keep hb1; replace z_h := z_h.keep hb1; replace z_f := z_f.keep hb1; replace z_p := z_p.keep hb1; replace hb := bthen hb hb1; clear hb1; replace q_a0 := x_a.c0; replace q_a1 := x_a.c1; replace f_a0 := x_a.fr 0; replace f_a1 := x_a.fr 1; replace q_b0 := x_b.c0; replace q_b1 := x_b.c1; replace f_b0 := x_b.fr 0; replace f_b1 := x_b.fr 1; replace q_q0 := x_q.c0; replace q_q1 := x_q.c1; replace f_q0 := x_q.fr 0; replace f_q1 := x_q.fr 1; replace q_r0 := x_r.c0; replace q_r1 := x_r.c1; replace f_r0 := x_r.fr 0; replace f_r1 := x_r.fr 1; replace q_n0 := x_n.c0; replace q_n1 := x_n.c1; replace f_n0 := x_n.fr 0; replace f_n1 := x_n.fr 1; replace q_u0 := x_u.c0; replace q_u1 := x_u.c1; replace f_u0 := x_u.fr 0; replace f_u1 := x_u.fr 1; replace q_h0 := x_h.c0; replace q_h1 := x_h.c1; replace f_h0 := x_h.fr 0; replace f_h1 := x_h.fr 1; replace q_f0 := x_f.c0; replace q_f1 := x_f.c1; replace f_f0 := x_f.fr 0; replace f_f1 := x_f.fr 1; replace q_o0 := x_o.c0; replace q_o1 := x_o.c1; replace f_o0 := x_o.fr 0; replace f_o1 := x_o.fr 1) | (go_at_call 31; (with_reducible refine (ZAdd_any s1.zr z_r.zr 22 (by omega) (by omega) (by omega)).mono ?_); rintro e v32 ⟨A5, n5, c5, rfl, s2, hb1⟩; replace x_a := x_a.keep hb1; replace x_b := x_b.keep hb1; replace x_q := x_q.keep hb1; replace x_r := x_r.keep hb1; replace x_n := x_n.keep hb1; replace x_u := x_u.keep hb1; replace x_h := x_h.keep hb1; replace x_f := x_f.keep hb1; replace x_o := x_o.keep hb1; replace za := za.keep hb1; replace zb := zb.keep hb1; replace z_q := z_q.keep hb1; replace z_r := z_r.keep hb1; replace z_n := z_n.keep hb1; replace z_u := z_u.keep hb1; replace z_h := z_h.keep hb1; replace z_f := z_f.keep hb1; replace z_p := z_p.keep hb1; replace s1 := s1.keep hb1; replace hb := bthen hb hb1; clear hb1; replace q_a0 := x_a.c0; replace q_a1 := x_a.c1; replace f_a0 := x_a.fr 0; replace f_a1 := x_a.fr 1; replace q_b0 := x_b.c0; replace q_b1 := x_b.c1; replace f_b0 := x_b.fr 0; replace f_b1 := x_b.fr 1; replace q_q0 := x_q.c0; replace q_q1 := x_q.c1; replace f_q0 := x_q.fr 0; replace f_q1 := x_q.fr 1; replace q_r0 := x_r.c0; replace q_r1 := x_r.c1; replace f_r0 := x_r.fr 0; replace f_r1 := x_r.fr 1; replace q_n0 := x_n.c0; replace q_n1 := x_n.c1; replace f_n0 := x_n.fr 0; replace f_n1 := x_n.fr 1; replace q_u0 := x_u.c0; replace q_u1 := x_u.c1; replace f_u0 := x_u.fr 0; replace f_u1 := x_u.fr 1; replace q_h0 := x_h.c0; replace q_h1 := x_h.c1; replace f_h0 := x_h.fr 0; replace f_h1 := x_h.fr 1; replace q_f0 := x_f.c0; replace q_f1 := x_f.c1; replace f_f0 := x_f.fr 0; replace f_f1 := x_f.fr 1; replace q_o0 := x_o.c0; replace q_o1 := x_o.c1; replace f_o0 := x_o.fr 0; replace f_o1 := x_o.fr 1) | (go_at_call 25; (with_reducible refine (ZSame_any s2.zr za (by omega) (by omega)).mono ?_); rintro e v33 ⟨rfl, hb1⟩; replace x_a := x_a.keep hb1; replace x_b := x_b.keep hb1; replace x_q := x_q.keep hb1; replace x_r := x_r.keep hb1; replace x_n := x_n.keep hb1; replace x_u := x_u.keep hb1; replace x_h := x_h.keep hb1; replace x_f := x_f.keep hb1; replace x_o := x_o.keep hb1; replace za := za.keep hb1; replace zb := zb.keep hb1; replace z_q := z_q.keep hb1; replace z_r := z_r.keep hb1; replace z_n := z_n.keep hb1; replace z_u := z_u.keep hb1; replace z_h := z_h.keep hb1; replace z_f := z_f.keep hb1; replace z_p := z_p.keep hb1; replace s1 := s1.keep hb1; replace s2 := s2.keep hb1; replace hb := bthen hb hb1; clear hb1; replace q_a0 := x_a.c0; replace q_a1 := x_a.c1; replace f_a0 := x_a.fr 0; replace f_a1 := x_a.fr 1; replace q_b0 := x_b.c0; replace q_b1 := x_b.c1; replace f_b0 := x_b.fr 0; replace f_b1 := x_b.fr 1; replace q_q0 := x_q.c0; replace q_q1 := x_q.c1; replace f_q0 := x_q.fr 0; replace f_q1 := x_q.fr 1; replace q_r0 := x_r.c0; replace q_r1 := x_r.c1; replace f_r0 := x_r.fr 0; replace f_r1 := x_r.fr 1; replace q_n0 := x_n.c0; replace q_n1 := x_n.c1; replace f_n0 := x_n.fr 0; replace f_n1 := x_n.fr 1; replace q_u0 := x_u.c0; replace q_u1 := x_u.c1; replace f_u0 := x_u.fr 0; replace f_u1 := x_u.fr 1; replace q_h0 := x_h.c0; replace q_h1 := x_h.c1; replace f_h0 := x_h.fr 0; replace f_h1 := x_h.fr 1; replace q_f0 := x_f.c0; replace q_f1 := x_f.c1; replace f_f0 := x_f.fr 0; replace f_f1 := x_f.fr 1; replace q_o0 := x_o.c0; replace q_o1 := x_o.c1; replace f_o0 := x_o.fr 0; replace f_o1 := x_o.fr 1; rw [eqB_of HDM.out]) | (go_at_call 21; (with_reducible refine (ZSign_any z_r.zr (by omega)).mono ?_); rintro e v34 ⟨rfl, hb1⟩; replace x_a := x_a.keep hb1; replace x_b := x_b.keep hb1; replace x_q := x_q.keep hb1; replace x_r := x_r.keep hb1; replace x_n := x_n.keep hb1; replace x_u := x_u.keep hb1; replace x_h := x_h.keep hb1; replace x_f := x_f.keep hb1; replace x_o := x_o.keep hb1; replace za := za.keep hb1; replace zb := zb.keep hb1; replace z_q := z_q.keep hb1; replace z_r := z_r.keep hb1; replace z_n := z_n.keep hb1; replace z_u := z_u.keep hb1; replace z_h := z_h.keep hb1; replace z_f := z_f.keep hb1; replace z_p := z_p.keep hb1; replace s1 := s1.keep hb1; replace s2 := s2.keep hb1; replace hb := bthen hb hb1; clear hb1; replace q_a0 := x_a.c0; replace q_a1 := x_a.c1; replace f_a0 := x_a.fr 0; replace f_a1 := x_a.fr 1; replace q_b0 := x_b.c0; replace q_b1 := x_b.c1; replace f_b0 := x_b.fr 0; replace f_b1 := x_b.fr 1; replace q_q0 := x_q.c0; replace q_q1 := x_q.c1; replace f_q0 := x_q.fr 0; replace f_q1 := x_q.fr 1; replace q_r0 := x_r.c0; replace q_r1 := x_r.c1; replace f_r0 := x_r.fr 0; replace f_r1 := x_r.fr 1; replace q_n0 := x_n.c0; replace q_n1 := x_n.c1; replace f_n0 := x_n.fr 0; replace f_n1 := x_n.fr 1; replace q_u0 := x_u.c0; replace q_u1 := x_u.c1; replace f_u0 := x_u.fr 0; replace f_u1 := x_u.fr 1; replace q_h0 := x_h.c0; replace q_h1 := x_h.c1; replace f_h0 := x_h.fr 0; replace f_h1 := x_h.fr 1; replace q_f0 := x_f.c0; replace q_f1 := x_f.c1; replace f_f0 := x_f.fr 0; replace f_f1 := x_f.fr 1; replace q_o0 := x_o.c0; replace q_o1 := x_o.c1; replace f_o0 := x_o.fr 0; replace f_o1 := x_o.fr 1; rw [HS1.out]) | (go_at_call 23; (with_reducible refine (ZCmp_any z_r.zr z_h.zr (by omega) (by omega)).mono ?_); rintro e v35 ⟨rfl, hb1⟩; replace x_a := x_a.keep hb1; replace x_b := x_b.keep hb1; replace x_q := x_q.keep hb1; replace x_r := x_r.keep hb1; replace x_n := x_n.keep hb1; replace x_u := x_u.keep hb1; replace x_h := x_h.keep hb1; replace x_f := x_f.keep hb1; replace x_o := x_o.keep hb1; replace za := za.keep hb1; replace zb := zb.keep hb1; replace z_q := z_q.keep hb1; replace z_r := z_r.keep hb1; replace z_n := z_n.keep hb1; replace z_u := z_u.keep hb1; replace z_h := z_h.keep hb1; replace z_f := z_f.keep hb1; replace z_p := z_p.keep hb1; replace s1 := s1.keep hb1; replace s2 := s2.keep hb1; replace hb := bthen hb hb1; clear hb1; replace q_a0 := x_a.c0; replace q_a1 := x_a.c1; replace f_a0 := x_a.fr 0; replace f_a1 := x_a.fr 1; replace q_b0 := x_b.c0; replace q_b1 := x_b.c1; replace f_b0 := x_b.fr 0; replace f_b1 := x_b.fr 1; replace q_q0 := x_q.c0; replace q_q1 := x_q.c1; replace f_q0 := x_q.fr 0; replace f_q1 := x_q.fr 1; replace q_r0 := x_r.c0; replace q_r1 := x_r.c1; replace f_r0 := x_r.fr 0; replace f_r1 := x_r.fr 1; replace q_n0 := x_n.c0; replace q_n1 := x_n.c1; replace f_n0 := x_n.fr 0; replace f_n1 := x_n.fr 1; replace q_u0 := x_u.c0; replace q_u1 := x_u.c1; replace f_u0 := x_u.fr 0; replace f_u1 := x_u.fr 1; replace q_h0 := x_h.c0; replace q_h1 := x_h.c1; replace f_h0 := x_h.fr 0; replace f_h1 := x_h.fr 1; replace q_f0 := x_f.c0; replace q_f1 := x_f.c1; replace f_f0 := x_f.fr 0; replace f_f1 := x_f.fr 1; replace q_o0 := x_o.c0; replace q_o1 := x_o.c1; replace f_o0 := x_o.fr 0; replace f_o1 := x_o.fr 1; rw [HS2.out]) | (go_at_call 23; (with_reducible refine (ZCmp_any z_f.zr z_h.zr (by omega) (by omega)).mono ?_); rintro e v36 ⟨rfl, hb1⟩; replace x_a := x_a.keep hb1; replace x_b := x_b.keep hb1; replace x_q := x_q.keep hb1; replace x_r := x_r.keep hb1; replace x_n := x_n.keep hb1; replace x_u := x_u.keep hb1; replace x_h := x_h.keep hb1; replace x_f := x_f.keep hb1; replace x_o := x_o.keep hb1; replace za := za.keep hb1; replace zb := zb.keep hb1; replace z_q := z_q.keep hb1; replace z_r := z_r.keep hb1; replace z_n := z_n.keep hb1; replace z_u := z_u.keep hb1; replace z_h := z_h.keep hb1; replace z_f := z_f.keep hb1; replace z_p := z_p.keep hb1; replace s1 := s1.keep hb1; replace s2 := s2.keep hb1; replace hb := bthen hb hb1; clear hb1; replace q_a0 := x_a.c0; replace q_a1 := x_a.c1; replace f_a0 := x_a.fr 0; replace f_a1 := x_a.fr 1; replace q_b0 := x_b.c0; replace q_b1 := x_b.c1; replace f_b0 := x_b.fr 0; replace f_b1 := x_b.fr 1; replace q_q0 := x_q.c0; replace q_q1 := x_q.c1; replace f_q0 := x_q.fr 0; replace f_q1 := x_q.fr 1; replace q_r0 := x_r.c0; replace q_r1 := x_r.c1; replace f_r0 := x_r.fr 0; replace f_r1 := x_r.fr 1; replace q_n0 := x_n.c0; replace q_n1 := x_n.c1; replace f_n0 := x_n.fr 0; replace f_n1 := x_n.fr 1; replace q_u0 := x_u.c0; replace q_u1 := x_u.c1; replace f_u0 := x_u.fr 0; replace f_u1 := x_u.fr 1; replace q_h0 := x_h.c0; replace q_h1 := x_h.c1; replace f_h0 := x_h.fr 0; replace f_h1 := x_h.fr 1; replace q_f0 := x_f.c0; replace q_f1 := x_f.c1; replace f_f0 := x_f.fr 0; replace f_f1 := x_f.fr 1; replace q_o0 := x_o.c0; replace q_o1 := x_o.c1; replace f_o0 := x_o.fr 0; replace f_o1 := x_o.fr 1; rw [HS3.out]) | (go_at_call 21; (with_reducible refine (ZSign_any z_p.zr (by omega)).mono ?_); rintro e v37 ⟨rfl, hb1⟩; replace x_a := x_a.keep hb1; replace x_b := x_b.keep hb1; replace x_q := x_q.keep hb1; replace x_r := x_r.keep hb1; replace x_n := x_n.keep hb1; replace x_u := x_u.keep hb1; replace x_h := x_h.keep hb1; replace x_f := x_f.keep hb1; replace x_o := x_o.keep hb1; replace za := za.keep hb1; replace zb := zb.keep hb1; replace z_q := z_q.keep hb1; replace z_r := z_r.keep hb1; replace z_n := z_n.keep hb1; replace z_u := z_u.keep hb1; replace z_h := z_h.keep hb1; replace z_f := z_f.keep hb1; replace z_p := z_p.keep hb1; replace s1 := s1.keep hb1; replace s2 := s2.keep hb1; replace hb := bthen hb hb1; clear hb1; replace q_a0 := x_a.c0; replace q_a1 := x_a.c1; replace f_a0 := x_a.fr 0; replace f_a1 := x_a.fr 1; replace q_b0 := x_b.c0; replace q_b1 := x_b.c1; replace f_b0 := x_b.fr 0; replace f_b1 := x_b.fr 1; replace q_q0 := x_q.c0; replace q_q1 := x_q.c1; replace f_q0 := x_q.fr 0; replace f_q1 := x_q.fr 1; replace q_r0 := x_r.c0; replace q_r1 := x_r.c1; replace f_r0 := x_r.fr 0; replace f_r1 := x_r.fr 1; replace q_n0 := x_n.c0; replace q_n1 := x_n.c1; replace f_n0 := x_n.fr 0; replace f_n1 := x_n.fr 1; replace q_u0 := x_u.c0; replace q_u1 := x_u.c1; replace f_u0 := x_u.fr 0; replace f_u1 := x_u.fr 1; replace q_h0 := x_h.c0; replace q_h1 := x_h.c1; replace f_h0 := x_h.fr 0; replace f_h1 := x_h.fr 1; replace q_f0 := x_f.c0; replace q_f1 := x_f.c1; replace f_f0 := x_f.fr 0; replace f_f1 := x_f.fr 1; replace q_o0 := x_o.c0; replace q_o1 := x_o.c1; replace f_o0 := x_o.fr 0; replace f_o1 := x_o.fr 1; rw [HS5.out]) | (go_at_call 23; (with_reducible refine (ZCmp_any z_p.zr z_h.zr (by omega) (by omega)).mono ?_); rintro e v38 ⟨rfl, hb1⟩; replace x_a := x_a.keep hb1; replace x_b := x_b.keep hb1; replace x_q := x_q.keep hb1; replace x_r := x_r.keep hb1; replace x_n := x_n.keep hb1; replace x_u := x_u.keep hb1; replace x_h := x_h.keep hb1; replace x_f := x_f.keep hb1; replace x_o := x_o.keep hb1; replace za := za.keep hb1; replace zb := zb.keep hb1; replace z_q := z_q.keep hb1; replace z_r := z_r.keep hb1; replace z_n := z_n.keep hb1; replace z_u := z_u.keep hb1; replace z_h := z_h.keep hb1; replace z_f := z_f.keep hb1; replace z_p := z_p.keep hb1; replace s1 := s1.keep hb1; replace s2 := s2.keep hb1; replace hb := bthen hb hb1; clear hb1; replace q_a0 := x_a.c0; replace q_a1 := x_a.c1; replace f_a0 := x_a.fr 0; replace f_a1 := x_a.fr 1; replace q_b0 := x_b.c0; replace q_b1 := x_b.c1; replace f_b0 := x_b.fr 0; replace f_b1 := x_b.fr 1; replace q_q0 := x_q.c0; replace q_q1 := x_q.c1; replace f_q0 := x_q.fr 0; replace f_q1 := x_q.fr 1; replace q_r0 := x_r.c0; replace q_r1 := x_r.c1; replace f_r0 := x_r.fr 0; replace f_r1 := x_r.fr 1; replace q_n0 := x_n.c0; replace q_n1 := x_n.c1; replace f_n0 := x_n.fr 0; replace f_n1 := x_n.fr 1; replace q_u0 := x_u.c0; replace q_u1 := x_u.c1; replace f_u0 := x_u.fr 0; replace f_u1 := x_u.fr 1; replace q_h0 := x_h.c0; replace q_h1 := x_h.c1; replace f_h0 := x_h.fr 0; replace f_h1 := x_h.fr 1; replace q_f0 := x_f.c0; replace q_f1 := x_f.c1; replace f_f0 := x_f.fr 0; replace f_f1 := x_f.fr 1; replace q_o0 := x_o.c0; replace q_o1 := x_o.c1; replace f_o0 := x_o.fr 0; replace f_o1 := x_o.fr 1; rw [HS6.out]))
          go_wp2
          go_ret
          exact ⟨rfl, hb⟩
        · have hsn : ¬ SB < 0 := by rw [← HSB.out]; exact mt sgnI_lt0.1 hneg
          obtain ⟨hu0, hu1⟩ := HUP.out.2 (by omega)
          have c5 : 0 ≤ sgnI (UU * B - A) := sgn_ge hu0
          have c6 : sgnI (UU * B - A - (B.natAbs : Int)) < 0 := sgn_lt (by omega)
          clear hu0 hu1 HUP hneg
          go_wp2_with fail
          with_reducible refine (ZSign_any zb (by omega)).mono ?_
          rintro e v28 ⟨rfl, hb1⟩
          replace x_a := x_a.keep hb1
          replace x_b := x_b.keep hb1
          replace x_q := x_q.keep hb1
          replace x_r := x_r.keep hb1
          replace x_n := x_n.keep hb1
          replace x_u := x_u.keep hb1
          replace x_h := x_h.keep hb1
          replace x_f := x_f.keep hb1
          replace x_o := x_o.keep hb1
          replace za := za.keep hb1
          replace zb := zb.keep hb1
          replace z_q := z_q.keep hb1
          replace z_r := z_r.keep hb1
          replace z_n := z_n.keep hb1
          replace z_u := z_u.keep hb1
          replace z_h := z_h.keep hb1
          replace z_f := z_f.keep hb1
          replace z_o := z_o.keep hb1
          replace hb := bthen hb hb1
          clear hb1
          replace q_a0 := x_a.c0; replace q_a1 := x_a.c1; replace f_a0 := x_a.fr 0; replace f_a1 := x_a.fr 1
          replace q_b0 := x_b.c0; replace q_b1 := x_b.c1; replace f_b0 := x_b.fr 0; replace f_b1 := x_b.fr 1
          replace q_q0 := x_q.c0; replace q_q1 := x_q.c1; replace f_q0 := x_q.fr 0; replace f_q1 := x_q.fr 1
          replace q_r0 := x_r.c0; replace q_r1 := x_r.c1; replace f_r0 := x_r.fr 0; replace f_r1 := x_r.fr 1
          replace q_n0 := x_n.c0; replace q_n1 := x_n.c1; replace f_n0 := x_n.fr 0; replace f_n1 := x_n.fr 1
          replace q_u0 := x_u.c0; replace q_u1 := x_u.c1; replace f_u0 := x_u.fr 0; replace f_u1 := x_u.fr 1
          replace q_h0 := x_h.c0; replace q_h1 := x_h.c1; replace f_h0 := x_h.fr 0; replace f_h1 := x_h.fr 1
          replace q_f0 := x_f.c0; replace q_f1 := x_f.c1; replace f_f0 := x_f.fr 0; replace f_f1 := x_f.fr 1
          replace q_o0 := x_o.c0; replace q_o1 := x_o.c1; replace f_o0 := x_o.fr 0; replace f_o1 := x_o.fr 1
          rw [HSB.out]
          go_wp2_with fail
          generalize hO9 : UU * B - A = OO at *
          clear hO9
          have c1 := C1.out; have c2 := C2.out; have c3 := C3.out
          clear C1 C2 C3
          skip
          generalize hS1 : sgnI R = S1 at *
          have HS1 := Lib.hid hS1; clear hS1
          skip
          generalize hS2 : sgnI (R - (B.natAbs : Int)) = S2 at *
          have HS2 := Lib.hid hS2; clear hS2
          skip
          generalize hS3 : sgnI (FF - (B.natAbs : Int)) = S3 at *
          have HS3 := Lib.hid hS3; clear hS3
          skip
          generalize hS5 : sgnI OO = S5 at *
          have HS5 := Lib.hid hS5; clear hS5
          skip
          generalize hS6 : sgnI (OO - (B.natAbs : Int)) = S6 at *
          have HS6 := Lib.hid hS6; clear hS6
          skip
          go_region_held3 (fun w' => w'.cell? ⟨v7.heap.size, 0, none⟩ = some (.bool (ngB Q)) ∧ w'.cell? ⟨v7.heap.size, 1, none⟩ = some (.slice Aq nq cq) ∧ w'.cell? ⟨w.heap.size + 1, 0, none⟩ = some (.bool b2) ∧ w'.cell? ⟨w.heap.size + 1, 1, none⟩ = some (.slice Ab_ nb_ cb_) ∧ w'.cell? ⟨v7.heap.size + 1, 0, none⟩ = some (.bool (ngB R)) ∧ w'.cell? ⟨v7.heap.size + 1, 1, none⟩ = some (.slice Ar nr cr) ∧ w'.cell? ⟨w.heap.size, 0, none⟩ = some (.bool b) ∧ w'.cell? ⟨w.heap.size, 1, none⟩ = some (.slice Aa_ na_ ca_) ∧ w'.cell? ⟨v14.heap.size, 0, none⟩ = some (.bool (ngB (B.natAbs : Int))) ∧ w'.cell? ⟨v14.heap.size, 1, none⟩ = some (.slice Ah nh ch) ∧ w'.cell? ⟨g20, 0, none⟩ = some (.bool (ngB FF)) ∧ w'.cell? ⟨g20, 1, none⟩ = some (.slice A21 n21 c21) ∧ w'.cell? ⟨g25, 0, none⟩ = some (.bool (ngB OO)) ∧ w'.cell? ⟨g25, 1, none⟩ = some (.slice A26 n26 c26))
            (first | (with_reducible exact ⟨x_q.c0, x_q.c1, x_b.c0, x_b.c1, x_r.c0, x_r.c1, x_a.c0, x_a.c1, x_h.c0, x_h.c1, x_f.c0, x_f.c1, x_o.c0, x_o.c1⟩) | (with_reducible exact ⟨(x_q.aside (by omega)).c0, (x_q.aside (by omega)).c1, (x_b.aside (by omega)).c0, (x_b.aside (by omega)).c1, (x_r.aside (by omega)).c0, (x_r.aside (by omega)).c1, (x_a.aside (by omega)).c0, (x_a.aside (by omega)).c1, (x_h.aside (by omega)).c0, (x_h.aside (by omega)).c1, (x_f.aside (by omega)).c0, (x_f.aside (by omega)).c1, (x_o.aside (by omega)).c0, (x_o.aside (by omega)).c1⟩) | (with_reducible exact ⟨((x_q.aside (by omega)).aside (by omega)).c0, ((x_q.aside (by omega)).aside (by omega)).c1, ((x_b.aside (by omega)).aside (by omega)).c0, ((x_b.aside (by omega)).aside (by omega)).c1, ((x_r.aside (by omega)).aside (by omega)).c0, ((x_r.aside (by omega)).aside (by omega)).c1, ((x_a.aside (by omega)).aside (by omega)).c0, ((x_a.aside (by omega)).aside (by omega)).c1, ((x_h.aside (by omega)).aside (by omega)).c0, ((x_h.aside (by omega)).aside (by omega)).c1, ((x_f.aside (by omega)).aside (by omega)).c0, ((x_f.aside (by omega)).aside (by omega)).c1, ((x_o.aside (by omega)).aside (by omega)).c0, ((x_o.aside (by omega)).aside (by omega)).c1⟩) | go_keep)
            (first | (go_at_call 35; (with_reducible refine (ZMul_any z_q.zr.drw zb.drw 21 (by omega) (by omega)).mono ?_); rintro e v29 ⟨A4, n4, c4, rfl, s1, hb1⟩; replace hb1 := undrew hb1; replace x_a := x_a.keep hb1; replace x_b := x_b.keep hb1; replace x_q := x_q.keep hb1; replace x_r := x_r.keep hb1; replace x_n := x_n.keep hb1; replace x_u := x_u.keep hb1; replace x_h := x_h.keep hb1; replace x_f := x_f.keep hb1; replace x_o := x_o.keep hb1; replace za := za.keep hb1; replace zb := zb.keep hb1; replace z_q := z_q.keep hb1; replace z_r := z_r.keep hb1; replace z_n := z_n.keep hb1; replace z_u := z_u.keep hb1; replace z_h := z_h.keep hb1; replace z_f := z_f.keep hb1; replace z_o := z_o.keep hb1; replace hb := bthen hb hb1; clear hb1; replace q_a0 := x_a.c0; replace q_a1 := x_a.c1; replace f_a0 := x_a.fr 0; replace f_a1 := x_a.fr 1; replace q_b0 := x_b.c0; replace q_b1 := x_b.c1; replace f_b0 := x_b.fr 0; replace f_b1 := x_b.fr 1; replace q_q0 := x_q.c0; replace q_q1 := x_q.c1; replace f_q0 := x_q.fr 0; replace f_q1 := x_q.fr 1; replace q_r0 := x_r.c0; replace q_r1 := x_r.c1; replace f_r0 := x_r.fr 0; replace f_r1 := x_r.fr 1; replace q_n0 := x_n.c0; replace q_n1 := x_n.c1; replace f_n0 := x_n.fr 0; replace f_n1 := x_n.fr 1; replace q_u0 := x_u.c0; replace q_u1 := x_u.c1; replace f_u0 := x_u.fr 0; replace f_u1 := x_u.fr 1; replace q_h0 := x_h.c0; replace q_h1 := x_h.c1; replace f_h0 := x_h.fr 0; replace f_h1 := x_h.fr 1; replace q_f0 := x_f.c0; replace q_f1 := x_f.c1; replace f_f0 := x_f.fr 0; replace f_f1 := x_f.fr 1; replace q_o0 := x_o.c0; replace q_o1 := x_o.c1; replace f_o0 := x_o.fr 0; replace f_o1 := x_o.fr 1) | (go_at_call 31; (with_reducible refine (ZAdd_any s1.zr z_r.zr 22 (by omega) (by omega) (by omega)).mono ?_); rintro e v30 ⟨A5, n5, c5, rfl, s2, hb1⟩; replace x_a := x_a.keep hb1; replace x_b := x_b.keep hb1; replace x_q := x_q.keep hb1; replace x_r := x_r.keep hb1; replace x_n := x_n.keep hb1; replace x_u := x_u.keep hb1; replace x_h := x_h.keep hb1; replace x_f := x_f.keep hb1; replace x_o := x_o.keep hb1; replace za := za.keep hb1; replace zb := zb.keep hb1; replace z_q := z_q.keep hb1; replace z_r := z_r.keep hb1; replace z_n := z_n.keep hb1; replace z_u := z_u.keep hb1; replace z_h := z_h.keep hb1; replace z_f := z_f.keep hb1; replace z_o := z_o.keep hb1; replace s1 := s1.keep hb1; replace hb := bthen hb hb1; clear hb1; replace q_a0 := x_a.c0; replace q_a1 := x_a.c1; replace f_a0 := x_a.fr 0; replace f_a1 := x_a.fr 1; replace q_b0 := x_b.c0; replace q_b1 := x_b.c1; replace f_b0 := x_b.fr 0; replace f_b1 := x_b.fr 1; replace q_q0 := x_q.c0; replace q_q1 := x_q.c1; replace f_q0 := x_q.fr 0; replace f_q1 := x_q.fr 1; replace q_r0 := x_r.c0; replace q_r1 := x_r.c1; replace f_r0 := x_r.fr 0; replace f_r1 := x_r.fr 1; replace q_n0 := x_n.c0; replace q_n1 := x_n.c1; replace f_n0 := x_n.fr 0; replace f_n1 := x_n.fr 1; replace q_u0 := x_u.c0; replace q_u1 := x_u.c1; replace f_u0 := x_u.fr 0; replace f_u1 := x_u.fr 1; replace q_h0 := x_h.c0; replace q_h1 := x_h.c1; replace f_h0 := x_h.fr 0; replace f_h1 := x_h.fr 1; replace q_f0 := x_f.c0; replace q_f1 := x_f.c1; replace f_f0 := x_f.fr 0; replace f_f1 := x_f.fr 1; replace q_o0 := x_o.c0; replace q_o1 := x_o.c1; replace f_o0 := x_o.fr 0; replace f_o1 := x_o.fr 1) | (go_at_call 25; (with_reducible refine (ZSame_any s2.zr za (by omega) (by omega)).mono ?_); rintro e v31 ⟨rfl, hb1⟩; replace x_a := x_a.keep hb1; replace x_b := x_b.keep hb1; replace x_q := x_q.keep hb1; replace x_r := x_r.keep hb1; replace x_n := x_n.keep hb1; replace x_u := x_u.keep hb1; replace x_h := x_h.keep hb1; replace x_f := x_f.keep hb1; replace x_o := x_o.keep hb1; replace za := za.keep hb1; replace zb := zb.keep hb1; replace z_q := z_q.keep hb1; replace z_r := z_r.keep hb1; replace z_n := z_n.keep hb1; replace z_u := z_u.keep hb1; replace z_h := z_h.keep hb1; replace z_f := z_f.keep hb1; replace z_o := z_o.keep hb1; replace s1 := s1.keep hb1; replace s2 := s2.keep hb1; replace hb := bthen hb hb1; clear hb1; replace q_a0 := x_a.c0; replace q_a1 := x_a.c1; replace f_a0 := x_a.fr 0; replace f_a1 := x_a.fr 1; replace q_b0 := x_b.c0; replace q_b1 := x_b.c1; replace f_b0 := x_b.fr 0; replace f_b1 := x_b.fr 1; replace q_q0 := x_q.c0; replace q_q1 := x_q.c1; replace f_q0 := x_q.fr 0; replace f_q1 := x_q.fr 1; replace q_r0 := x_r.c0; replace q_r1 := x_r.c1; replace f_r0 := x_r.fr 0; replace f_r1 := x_r.fr 1; replace q_n0 := x_n.c0; replace q_n1 := x_n.c1; replace f_n0 := x_n.fr 0; replace f_n1 := x_n.fr 1; replace q_u0 := x_u.c0; replace q_u1 := x_u.c1; replace f_u0 := x_u.fr 0; replace f_u1 := x_u.fr 1; replace q_h0 := x_h.c0; replace q_h1 := x_h.c1; replace f_h0 := x_h.fr 0; replace f_h1 := x_h.fr 1; replace q_f0 := x_f.c0; replace q_f1 := x_f.c1; replace f_f0 := x_f.fr 0; replace f_f1 := x_f.fr 1; replace q_o0 := x_o.c0; replace q_o1 := x_o.c1; replace f_o0 := x_o.fr 0; replace f_o1 := x_o.fr 1; rw [eqB_of HDM.out]) | (go_at_call 21; (with_reducible refine (ZSign_any z_r.zr (by omega)).mono ?_); rintro e v32 ⟨rfl, hb1⟩; replace x_a := x_a.keep hb1; replace x_b := x_b.keep hb1; replace x_q := x_q.keep hb1; replace x_r := x_r.keep hb1; replace x_n := x_n.keep hb1; replace x_u := x_u.keep hb1; replace x_h := x_h.keep hb1; replace x_f := x_f.keep hb1; replace x_o := x_o.keep hb1; replace za := za.keep hb1; replace zb := zb.keep hb1; replace z_q := z_q.keep hb1; replace z_r := z_r.keep hb1; replace z_n := z_n.keep hb1; replace z_u := z_u.keep hb1; replace z_h := z_h.keep hb1; replace z_f := z_f.keep hb1; replace z_o := z_o.keep hb1; replace s1 := s1.keep hb1; replace s2 := s2.keep hb1; replace hb := bthen hb hb1; clear hb1; replace q_a0 := x_a.c0; replace q_a1 := x_a.c1; replace f_a0 := x_a.fr 0; replace f_a1 := x_a.fr 1; replace q_b0 := x_b.c0; replace q_b1 := x_b.c1; replace f_b0 := x_b.fr 0; replace f_b1 := x_b.fr 1; replace q_q0 := x_q.c0; replace q_q1 := x_q.c1; replace f_q0 := x_q.fr 0; replace f_q1 := x_q.fr 1; replace q_r0 := x_r.c0; replace q_r1 := x_r.c1; replace f_r0 := x_r.fr 0; replace f_r1 := x_r.fr 1; replace q_n0 := x_n.c0; replace q_n1 := x_n.c1; replace f_n0 := x_n.fr 0; replace f_n1 := x_n.fr 1; replace q_u0 := x_u.c0; replace q_u1 := x_u.c1; replace f_u0 := x_u.fr 0; replace f_u1 := x_u.fr 1; replace q_h0 := x_h.c0; replace q_h1 := x_h.c1; replace f_h0 := x_h.fr 0; replace f_h1 := x_h.fr 1; replace q_f0 := x_f.c0; replace q_f1 := x_f.c1; replace f_f0 := x_f.fr 0; replace f_f1 := x_f.fr 1; replace q_o0 := x_o.c0; replace q_o1 := x_o.c1; replace f_o0 := x_o.fr 0; replace f_o1 := x_o.fr 1; rw [HS1.out]) | (go_at_call 23; (with_reducible refine (ZCmp_any z_r.zr z_h.zr (by omega) (by omega)).mono ?_); rintro e v33 ⟨rfl, hb1⟩; replace x_a := x_a.keep hb1; replace x_b := x_b.keep hb1; replace x_q := x_q.keep hb1; replace x_r := x_r.keep hb1; replace x_n := x_n.keep hb1; replace x_u := x_u.keep hb1; replace x_h := x_h.keep hb1; replace x_f := x_f.keep hb1; replace x_o := x_o.keep hb1; replace za := za.keep hb1; replace zb := zb.keep hb1; replace z_q := z_q.keep hb1; replace z_r := z_r.keep hb1; replace z_n := z_n.keep hb1; replace z_u := z_u.keep hb1; replace z_h := z_h.keep hb1; replace z_f := z_f.keep hb1; replace z_o := z_o.keep hb1; replace s1 := s1.keep hb1; replace s2 := s2.keep hb1; replace hb := bthen hb hb1; clear hb1; replace q_a0 := x_a.c0; replace q_a1 := x_a.c1; replace f_a0 := x_a.fr 0; replace f_a1 := x_a.fr 1; replace q_b0 := x_b.c0; replace q_b1 := x_b.c1; replace f_b0 := x_b.fr 0; replace f_b1 := x_b.fr 1; replace q_q0 := x_q.c0; replace q_q1 := x_q.c1; replace f_q0 := x_q.fr 0; replace f_q1 := x_q.fr 1; replace q_r0 := x_r.c0; replace q_r1 := x_r.c1; replace f_r0 := x_r.fr 0; replace f_r1 := x_r.fr 1; replace q_n0 := x_n.c0; replace q_n1 := x_n.c1; replace f_n0 := x_n.fr 0; replace f_n1 := x_n.fr 1; replace q_u0 := x_u.c0; replace q_u1 := x_u.c1; replace f_u0 := x_u.fr 0; replace f_u1 := x_u.fr 1; replace q_h0 := x_h.c0; replace q_h1 := x_h.c1; replace f_h0 := x_h.fr 0; replace f_h1 := x_h.fr 1; replace q_f0 := x_f.c0; replace q_f1 := x_f.c1; replace f_f0 := x_f.fr 0; replace f_f1 := x_f.fr 1; replace q_o0 := x_o.c0; replace q_o1 := x_o.c1; replace f_o0 := x_o.fr 0; replace f_o1 := x_o.fr 1; rw [HS2.out]) | (go_at_call 23; (with_reducible refine (ZCmp_any z_f.zr z_h.zr (by omega) (by omega)).mono ?_); rintro e v34 ⟨rfl, hb1⟩; replace x_a := x_a.keep hb1; replace x_b := x_b.keep hb1; replace x_q := x_q.keep hb1; replace x_r := x_r.keep hb1; replace x_n := x_n.keep hb1; replace x_u := x_u.keep hb1; replace x_h := x_h.keep hb1; replace x_f := x_f.keep hb1; replace x_o := x_o.keep hb1; replace za := za.keep hb1; replace zb := zb.keep hb1; replace z_q := z_q.keep hb1; replace z_r := z_r.keep hb1; replace z_n := z_n.keep hb1; replace z_u := z_u.keep hb1; replace z_h := z_h.keep hb1; replace z_f := z_f.keep hb1; replace z_o := z_o.keep hb1; replace s1 := s1.keep hb1; replace s2 := s2.keep hb1; replace hb := bthen hb hb1; clear hb1; replace q_a0 := x_a.c0; replace q_a1 := x_a.c1; replace f_a0 := x_a.fr 0; replace f_a1 := x_a.fr 1; replace q_b0 := x_b.c0; replace q_b1 := x_b.c1; replace f_b0 := x_b.fr 0; replace f_b1 := x_b.fr 1; replace q_q0 := x_q.c0; replace q_q1 := x_q.c1; replace f_q0 := x_q.fr 0; replace f_q1 := x_q.fr 1; replace q_r0 := x_r.c0; replace q_r1 := x_r.c1; replace f_r0 := x_r.fr 0; replace f_r1 := x_r.fr 1; replace q_n0 := x_n.c0; replace q_n1 := x_n.c1; replace f_n0 := x_n.fr 0; replace f_n1 := x_n.fr 1; replace q_u0 := x_u.c0; replace q_u1 := x_u.c1; replace f_u0 := x_u.fr 0; replace f_u1 := x_u.fr 1; replace q_h0 := x_h.c0; replace q_h1 := x_h.c1; replace f_h0 := x_h.fr 0; replace f_h1 := x_h.fr 1; replace q_f0 := x_f.c0; replace q_f1 := x_f.c1; replace f_f0 := x_f.fr 0; replace f_f1 := x_f.fr 1; replace q_o0 := x_o.c0; replace q_o1 := x_o.c1; replace f_o0 := x_o.fr 0; replace f_o1 := x_o.fr 1; rw [HS3.out]) | (go_at_call 21; (with_reducible refine (ZSign_any z_o.zr (by omega)).mono ?_); rintro e v35 ⟨rfl, hb1⟩; replace x_a := x_a.keep hb1; replace x_b := x_b.keep hb1; replace x_q := x_q.keep hb1; replace x_r := x_r.keep hb1; replace x_n := x_n.keep hb1; replace x_u := x_u.keep hb1; replace x_h := x_h.keep hb1; replace x_f := x_f.keep hb1; replace x_o := x_o.keep hb1; replace za := za.keep hb1; replace zb := zb.keep hb1; replace z_q := z_q.keep hb1; replace z_r := z_r.keep hb1; replace z_n := z_n.keep hb1; replace z_u := z_u.keep hb1; replace z_h := z_h.keep hb1; replace z_f := z_f.keep hb1; replace z_o := z_o.keep hb1; replace s1 := s1.keep hb1; replace s2 := s2.keep hb1; replace hb := bthen hb hb1; clear hb1; replace q_a0 := x_a.c0; replace q_a1 := x_a.c1; replace f_a0 := x_a.fr 0; replace f_a1 := x_a.fr 1; replace q_b0 := x_b.c0; replace q_b1 := x_b.c1; replace f_b0 := x_b.fr 0; replace f_b1 := x_b.fr 1; replace q_q0 := x_q.c0; replace q_q1 := x_q.c1; replace f_q0 := x_q.fr 0; replace f_q1 := x_q.fr 1; replace q_r0 := x_r.c0; replace q_r1 := x_r.c1; replace f_r0 := x_r.fr 0; replace f_r1 := x_r.fr 1; replace q_n0 := x_n.c0; replace q_n1 := x_n.c1; replace f_n0 := x_n.fr 0; replace f_n1 := x_n.fr 1; replace q_u0 := x_u.c0; replace q_u1 := x_u.c1; replace f_u0 := x_u.fr 0; replace f_u1 := x_u.fr 1; replace q_h0 := x_h.c0; replace q_h1 := x_h.c1; replace f_h0 := x_h.fr 0; replace f_h1 := x_h.fr 1; replace q_f0 := x_f.c0; replace q_f1 := x_f.c1; replace f_f0 := x_f.fr 0; replace f_f1 := x_f.fr 1; replace q_o0 := x_o.c0; replace q_o1 := x_o.c1; replace f_o0 := x_o.fr 0; replace f_o1 := x_o.fr 1; rw [HS5.out]) | (go_at_call 23; (with_reducible refine (ZCmp_any z_o.zr z_h.zr (by omega) (by omega)).mono ?_); rintro e v36 ⟨rfl, hb1⟩; replace x_a := x_a.keep hb1; replace x_b := x_b.keep hb1; replace x_q := x_q.keep hb1; replace x_r := x_r.keep hb1; replace x_n := x_n.keep hb1; replace x_u := x_u.keep hb1; replace x_h := x_h.keep hb1; replace x_f := x_f.keep hb1; replace x_o := x_o.keep hb1; replace za := za.keep hb1; replace zb := zb.keep hb1; replace z_q := z_q.keep hb1; replace z_r := z_r.keep hb1; replace z_n := z_n.keep hb1; replace z_u := z_u.keep hb1; replace z_h := z_h.keep hb1; replace z_f := z_f.keep hb1; replace z_o := z_o.keep hb1; replace s1 := s1.keep hb1; replace s2 := s2.keep hb1; replace hb := bthen hb hb1; clear hb1; replace q_a0 := x_a.c0; replace q_a1 := x_a.c1; replace f_a0 := x_a.fr 0; replace f_a1 := x_a.fr 1; replace q_b0 := x_b.c0; replace q_b1 := x_b.c1; replace f_b0 := x_b.fr 0; replace f_b1 := x_b.fr 1; replace q_q0 := x_q.c0; replace q_q1 := x_q.c1; replace f_q0 := x_q.fr 0; replace f_q1 := x_q.fr 1; replace q_r0 := x_r.c0; replace q_r1 := x_r.c1; replace f_r0 := x_r.fr 0; replace f_r1 := x_r.fr 1; replace q_n0 := x_n.c0; replace q_n1 := x_n.c1; replace f_n0 := x_n.fr 0; replace f_n1 := x_n.fr 1; replace q_u0 := x_u.c0; replace q_u1 := x_u.c1; replace f_u0 := x_u.fr 0; replace f_u1 := x_u.fr 1; replace q_h0 := x_h.c0; replace q_h1 := x_h.c1; replace f_h0 := x_h.fr 0; replace f_h1 := x_h.fr 1; replace q_f0 := x_f.c0; replace q_f1 := x_f.c1; replace f_f0 := x_f.fr 0; replace f_f1 := x_f.fr 1; replace q_o0 := x_o.c0; replace q_o1 := x_o.c1; replace f_o0 := x_o.fr 0; replace f_o1 := x_o.fr 1; rw [HS6.out]))
          go_wp2
          go_ret
          exact ⟨rfl, hb⟩

end Go.Proofs.Ythnffjgbglncbaa
