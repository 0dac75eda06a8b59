/-
  ball: rightQ, Right, low, high.
-/
import Derived.Test.YtiikmjnnlckiiaaLint
namespace Go.Proofs.Ytiikmjnnlckiiaa
open Go.RowKit
set_option linter.unusedVariables false

theorem qB_bool {a b : Bool} (h : a = b) : Ending.returned (.bool a) = .returned (.bool b) := by rw [h]
/-- Is a number of places valid? -/
def qB (q : Int) : Bool := decide (0 ≤ q ∧ q ≤ 2048)
theorem qB_yes {q : Int} (h : 0 ≤ q ∧ q ≤ 2048) : qB q = true := by unfold qB; simpa using h
theorem qB_no {q : Int} (h : ¬ (0 ≤ q ∧ q ≤ 2048)) : qB q = false := by unfold qB; simp only [decide_eq_false_iff_not]; exact h
theorem sgn_le {X Y : Int} : sgnI (X - Y) ≤ 0 ↔ X ≤ Y := by
  have := sgnI_gt0 (X := X - Y)
  omega

set_option maxRecDepth 100000 in
set_option maxHeartbeats 1000000 in
theorem rightQ_any (q : Int) {w : World} :
    Calls Try.prog 22 #[.int .i64 q] w fun e w' => e = .returned (.bool (qB q)) ∧ Below w.heap.size w w' := by
  rcases (show q < 0 ∨ (0 ≤ q ∧ q ≤ 2048) ∨ (0 ≤ q ∧ ¬ q ≤ 2048) by omega) with h | ⟨h, h2⟩ | ⟨h, h2⟩
  · have hf := qB_no (q := q) (by omega)
    have h3 : ¬ 0 ≤ q := by omega
    have HF := Lib.hid hf; clear hf
    go_enter Try.func22, Try.ntmps22
    go_wp2
    go_ret
    exact ⟨qB_bool HF.out.symm, Below.refl _ _⟩
  · have hf := qB_yes (q := q) (by omega)
    have HF := Lib.hid hf; clear hf
    go_enter Try.func22, Try.ntmps22
    go_wp2
    go_ret
    exact ⟨qB_bool HF.out.symm, Below.refl _ _⟩
  · have hf := qB_no (q := q) (by omega)
    have HF := Lib.hid hf; clear hf
    go_enter Try.func22, Try.ntmps22
    go_wp2
    go_ret
    exact ⟨qB_bool HF.out.symm, Below.refl _ _⟩

set_option maxRecDepth 100000 in
set_option maxHeartbeats 1000000 in
theorem Right_any {b b2 : Bool} {A A2 : Option Addr} {n c n2 c2 : Nat} {X Y q : Int} {j j2 : Nat} {w : World} (h : Zr w b A n c X j) (h2 : Zr w b2 A2 n2 c2 Y j2) (hj : j ≤ 1000000) (hj2 : j2 ≤ 1000000) :
    Calls Try.prog 10 #[.agg #[.bool b, .slice A n c, .bool b2, .slice A2 n2 c2, .int .i64 q]] w fun e w' => e = .returned (.bool (rB X Y q)) ∧ Below w.heap.size w w' := by
  by_cases hq : 0 ≤ q ∧ q ≤ 2048
  · have HQ := Lib.hid (qB_yes hq)
    by_cases hXY : X ≤ Y
    · have HF := Lib.hid (rB_yes (X := X) (Y := Y) (q := q) (by omega))
      have hd : sgnI (X - Y) ≤ 0 := sgn_le.2 hXY
      clear hXY hq
      generalize hC : sgnI (X - Y) = C at hd
      have HC := Lib.hid hC; clear hC
      go_enter Try.func10, Try.ntmps10
      go_wp2_with fail
      have x_a : Lx (w.alloc (.cells #[.bool b, .slice A n c, .bool b2, .slice A2 n2 c2, .int .i64 q] 27)) (w.heap.size) b A n c b2 A2 n2 c2 q := by have := Lx.new w b A n c b2 A2 n2 c2 q; simpa using this
      have hb : Below w.heap.size w (w.alloc (.cells #[.bool b, .slice A n c, .bool b2, .slice A2 n2 c2, .int .i64 q] 27)) := (Below.alloc (Below.refl w.heap.size w) (by simp) (.cells #[.bool b, .slice A n c, .bool b2, .slice A2 n2 c2, .int .i64 q] 27))
      generalize w.alloc (.cells #[.bool b, .slice A n c, .bool b2, .slice A2 n2 c2, .int .i64 q] 27) = v1 at *
      obtain ⟨h, h2⟩ := mv2 hb h h2
      have q_a := x_a.al
      go_wp2_with fail
      with_reducible refine (rightQ_any q).mono ?_
      rintro e v2 ⟨rfl, hb1⟩
      obtain ⟨x_a, h, h2⟩ := mv3 hb1 x_a h h2
      replace hb := bthen hb hb1
      clear hb1
      replace q_a := x_a.al
      rw [HQ.out]
      go_wp2_with fail
      with_reducible refine (ZCmp_any h h2 hj hj2).mono ?_
      rintro e v3 ⟨rfl, hb1⟩
      obtain ⟨x_a, h, h2⟩ := mv3 hb1 x_a h h2
      replace hb := bthen hb hb1
      clear hb1
      replace q_a := x_a.al
      rw [HC.out]
      go_wp2
      go_ret
      exact ⟨qB_bool HF.out.symm, hb⟩
    · have HF := Lib.hid (rB_no (X := X) (Y := Y) (q := q) (by omega))
      have hd : ¬ sgnI (X - Y) ≤ 0 := fun hc => hXY (sgn_le.1 hc)
      clear hXY hq
      generalize hC : sgnI (X - Y) = C at hd
      have HC := Lib.hid hC; clear hC
      go_enter Try.func10, Try.ntmps10
      go_wp2_with fail
      have x_a : Lx (w.alloc (.cells #[.bool b, .slice A n c, .bool b2, .slice A2 n2 c2, .int .i64 q] 27)) (w.heap.size) b A n c b2 A2 n2 c2 q := by have := Lx.new w b A n c b2 A2 n2 c2 q; simpa using this
      have hb : Below w.heap.size w (w.alloc (.cells #[.bool b, .slice A n c, .bool b2, .slice A2 n2 c2, .int .i64 q] 27)) := (Below.alloc (Below.refl w.heap.size w) (by simp) (.cells #[.bool b, .slice A n c, .bool b2, .slice A2 n2 c2, .int .i64 q] 27))
      generalize w.alloc (.cells #[.bool b, .slice A n c, .bool b2, .slice A2 n2 c2, .int .i64 q] 27) = v1 at *
      obtain ⟨h, h2⟩ := mv2 hb h h2
      have q_a := x_a.al
      go_wp2_with fail
      with_reducible refine (rightQ_any q).mono ?_
      rintro e v2 ⟨rfl, hb1⟩
      obtain ⟨x_a, h, h2⟩ := mv3 hb1 x_a h h2
      replace hb := bthen hb hb1
      clear hb1
      replace q_a := x_a.al
      rw [HQ.out]
      go_wp2_with fail
      with_reducible refine (ZCmp_any h h2 hj hj2).mono ?_
      rintro e v3 ⟨rfl, hb1⟩
      obtain ⟨x_a, h, h2⟩ := mv3 hb1 x_a h h2
      replace hb := bthen hb hb1
      clear hb1
      replace q_a := x_a.al
      rw [HC.out]
      go_wp2
      go_ret
      exact ⟨qB_bool ((dec_no (p := C ≤ 0) (by omega)).trans HF.out.symm), hb⟩
  · have HQ := Lib.hid (qB_no hq)
    have HF := Lib.hid (rB_no (X := X) (Y := Y) (q := q) (by omega))
    clear hq
    go_enter Try.func10, Try.ntmps10
    go_wp2_with fail
    have x_a : Lx (w.alloc (.cells #[.bool b, .slice A n c, .bool b2, .slice A2 n2 c2, .int .i64 q] 27)) (w.heap.size) b A n c b2 A2 n2 c2 q := by have := Lx.new w b A n c b2 A2 n2 c2 q; simpa using this
    have hb : Below w.heap.size w (w.alloc (.cells #[.bool b, .slice A n c, .bool b2, .slice A2 n2 c2, .int .i64 q] 27)) := (Below.alloc (Below.refl w.heap.size w) (by simp) (.cells #[.bool b, .slice A n c, .bool b2, .slice A2 n2 c2, .int .i64 q] 27))
    generalize w.alloc (.cells #[.bool b, .slice A n c, .bool b2, .slice A2 n2 c2, .int .i64 q] 27) = v1 at *
    obtain ⟨h, h2⟩ := mv2 hb h h2
    have q_a := x_a.al
    go_wp2_with fail
    with_reducible refine (rightQ_any q).mono ?_
    rintro e v2 ⟨rfl, hb1⟩
    obtain ⟨x_a, h, h2⟩ := mv3 hb1 x_a h h2
    replace hb := bthen hb hb1
    clear hb1
    replace q_a := x_a.al
    rw [HQ.out]
    go_wp2
    go_ret
    exact ⟨qB_bool HF.out.symm, hb⟩

set_option maxRecDepth 100000 in
set_option maxHeartbeats 1000000 in
theorem low_any {b b2 : Bool} {A A2 : Option Addr} {n c n2 c2 : Nat} {q : Int} {w : World} (hq : 0 ≤ q ∧ q ≤ 2048) :
    Calls Try.prog 24 #[.agg #[.bool b, .slice A n c, .bool b2, .slice A2 n2 c2, .int .i64 q]] w fun e w' => e = .returned (.agg #[.bool b, .slice A n c, .int .i64 (-q)]) ∧ Below w.heap.size w w' := by
  have hwr : IntKind.i64.wrap (-q) = -q := wrap_in (by omega) (by omega)
  go_enter Try.func24, Try.ntmps24
  go_wp2
  refine bodyPost_ret (v := .agg #[.bool b, .slice A n c, .int .i64 (-q)]) (by simp [results, Try.results24, go_sem]) rfl ?_
  exact ⟨rfl, below_alloc2 _ _ _⟩

set_option maxRecDepth 100000 in
set_option maxHeartbeats 1000000 in
theorem high_any {b b2 : Bool} {A A2 : Option Addr} {n c n2 c2 : Nat} {q : Int} {w : World} (hq : 0 ≤ q ∧ q ≤ 2048) :
    Calls Try.prog 25 #[.agg #[.bool b, .slice A n c, .bool b2, .slice A2 n2 c2, .int .i64 q]] w fun e w' => e = .returned (.agg #[.bool b2, .slice A2 n2 c2, .int .i64 (-q)]) ∧ Below w.heap.size w w' := by
  have hwr : IntKind.i64.wrap (-q) = -q := wrap_in (by omega) (by omega)
  go_enter Try.func25, Try.ntmps25
  go_wp2
  refine bodyPost_ret (v := .agg #[.bool b2, .slice A2 n2 c2, .int .i64 (-q)]) (by simp [results, Try.results25, go_sem]) rfl ?_
  exact ⟨rfl, below_alloc2 _ _ _⟩

end Go.Proofs.Ytiikmjnnlckiiaa
