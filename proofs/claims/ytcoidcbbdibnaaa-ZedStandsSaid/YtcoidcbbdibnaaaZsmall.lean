/-
  zed: Small.
-/
import Derived.Test.YtcoidcbbdibnaaaZshr
namespace Go.Proofs.Ytcoidcbbdibnaaa
open Go.RowKit
set_option linter.unusedVariables false

/-- The lowest limb. -/
def lowI (l : List Int) : Int := l.headD 0
set_option maxHeartbeats 400000 in
theorem lowLimb_any (A : Option Addr) (n c : Nat) (l : List Int) (w : World) (B : Nat) (h : Rd w B A n c l) :
    Calls Try.prog 35 #[.slice A n c] w fun e w' => e = .returned (.int .u64 (lowI l)) ∧ w = w' := by
  have hcap := h.cap
  have H := Lib.hid h.len
  rcases n with _ | t
  · have hl : l = [] := List.eq_nil_of_length_eq_zero H.out
    subst hl
    go_enter Try.func35, Try.ntmps35
    go_wp2
    go_ret
    exact ⟨rfl, rfl⟩
  · obtain ⟨b, of, rfl, hb, hc⟩ := h.at_ (by omega)
    obtain ⟨x, l, rfl⟩ : ∃ x m, l = x :: m := by
      cases l with
      | nil => have := H.out; simp at this
      | cons x m => exact ⟨x, m, rfl⟩
    have hc0 := hc 0 (by simp)
    simp only [Nat.add_zero, List.getElem_cons_zero] at hc0
    clear hc
    have hb0 : ((↑(t + 1) : Int) == 0) = false := by simp; omega
    go_enter Try.func35, Try.ntmps35
    go_wp2
    go_ret
    exact ⟨rfl, rfl⟩
theorem lowI_vl {l : List Int} (hl : Lim Wd l) (h : vl Wd l < Wd) : lowI l = ((vl Wd l : Nat) : Int) := by
  cases l with
  | nil => rfl
  | cons x m =>
    have h1 := (Lim_cons.1 hl).1
    rw [vl_cons] at h ⊢
    have : vl Wd m = 0 := by
      rcases Nat.eq_zero_or_pos (vl Wd m) with h0 | h0
      · exact h0
      · have := Nat.mul_le_mul_left Wd h0; omega
    rw [this]
    show x = _
    omega
/-- Is it an int64? -/
def smB (X : Int) : Bool := decide (-9223372036854775808 ≤ X ∧ X ≤ 9223372036854775807)
def smI (X : Int) : Int := if smB X then X else 0
theorem smB_no {X : Int} (h : ¬ (-9223372036854775808 ≤ X ∧ X ≤ 9223372036854775807)) : smB X = false ∧ smI X = 0 := by
  have : smB X = false := by unfold smB; exact decide_eq_false h
  exact ⟨this, by unfold smI; rw [this]; rfl⟩
theorem smB_yes {X : Int} (h : -9223372036854775808 ≤ X ∧ X ≤ 9223372036854775807) : smB X = true ∧ smI X = X := by
  have : smB X = true := by unfold smB; exact decide_eq_true h
  exact ⟨this, by unfold smI; rw [this]; rfl⟩
def SmPost (w : World) (X : Int) (e : Ending) (w' : World) : Prop := e = .returned (.tuple #[.int .i64 (smI X), .bool (smB X)]) ∧ Below w.heap.size w w'
theorem SmPost.no {w w' : World} {X : Int} (h : ¬ (-9223372036854775808 ≤ X ∧ X ≤ 9223372036854775807)) (hb : Below w.heap.size w w') : SmPost w X (.returned (.tuple #[.int .i64 0, .bool false])) w' := by
  obtain ⟨a, b⟩ := smB_no h; exact ⟨by rw [a, b], hb⟩
theorem SmPost.yes {w w' : World} {X y : Int} (h : -9223372036854775808 ≤ X ∧ X ≤ 9223372036854775807) (hy : y = X) (hb : Below w.heap.size w w') : SmPost w X (.returned (.tuple #[.int .i64 y, .bool true])) w' := by
  obtain ⟨a, b⟩ := smB_yes h; exact ⟨by rw [a, b, hy], hb⟩
theorem i64_keep {n : Int} (h0 : -9223372036854775808 ≤ n) (h1 : n ≤ 9223372036854775807) : IntKind.i64.wrap n = n := IntWalk.i64_in _ ⟨h0, h1⟩
theorem i64_u64_neg {x : Int} (h0 : 0 ≤ x) (h1 : x ≤ 9223372036854775808) : IntKind.i64.wrap (IntKind.u64.wrap (-x)) = -x := by
  rw [wrap_u64, IntKind.wrap_i64]; omega
theorem bl_lt {N k : Nat} (h : bl N ≤ k) : N < 2 ^ k := Nat.lt_of_lt_of_le (lt_bl N) (Nat.pow_le_pow_right (by omega) h)

set_option maxRecDepth 100000 in
set_option maxHeartbeats 4000000 in
theorem ZSmall_any {b : Bool} {A : Option Addr} {n c : Nat} {X : Int} {j : Nat} {w : World} (h : Zr w b A n c X j) (hj : j ≤ 1000000) :
    Calls Try.prog 10 #[.agg #[.bool b, .slice A n c]] w (SmPost w X) := by
  obtain ⟨l, h, rfl, hn⟩ := h
  have hbl := bl_bound h.lim h.len rfl
  by_cases hbig : 64 < bl (vl Wd l)
  · have hno : ¬ (-9223372036854775808 ≤ zi b (vl Wd l) ∧ zi b (vl Wd l) ≤ 9223372036854775807) := by
      have := le_of_bl (n := vl Wd l) (k := 64) hbig
      have e := zi_abs b (vl Wd l)
      rw [show (2 : Nat) ^ 64 = 18446744073709551616 from rfl] at this
      omega
    have HNO := Lib.hid hno; clear hno
    generalize hβ : bl (vl Wd l) = β at *
    have HB := Lib.hid hβ; clear hβ
    have hb2 : (64 : Int) < β := by omega
    go_enter Try.func10, Try.ntmps10
    go_wp2_with fail
    obtain ⟨hb, x_a⟩ := box1 w b A n c
    generalize w.alloc (.cells #[.bool b, .slice A n c] 24) = v1 at *
    replace h := h.go hb
    have q_a0 := x_a.c0; have q_a1 := x_a.c1; have f_a0 := x_a.fr 0; have f_a1 := x_a.fr 1
    go_wp2_with fail
    refine (BitLen_any _ _ _ _ _ _ h).mono ?_
    rintro e w' ⟨rfl, rfl⟩
    rw [HB.out]
    go_wp2
    go_ret2
    exact SmPost.no HNO.out hb
  · have hN64 : vl Wd l < 18446744073709551616 := bl_lt (k := 64) (by omega)
    have hlow := lowI_vl h.lim (by rw [Wd_eq]; exact hN64)
    have hb2 : ¬ (64 : Int) < bl (vl Wd l) := by omega
    generalize hβ : bl (vl Wd l) = β at *
    have HB := Lib.hid hβ; clear hβ
    generalize hN : vl Wd l = N at *
    have HN := Lib.hid hN; clear hN
    obtain ⟨x, hx⟩ : ∃ x : Int, (N : Int) = x := ⟨_, rfl⟩
    have x0 : 0 ≤ x := by omega
    have x1 : x < 18446744073709551616 := by omega
    rw [hx] at hlow
    have HX := Lib.hid hx; have HL := Lib.hid hlow; clear hlow hx hN64
    cases b
    · by_cases h63 : x < 9223372036854775808
      · skip
        have hw : IntKind.i64.wrap x = x := i64_keep (by omega) (by omega)
        go_enter Try.func10, Try.ntmps10
        go_wp2_with fail
        obtain ⟨hb, x_a⟩ := box1 w false A n c
        generalize w.alloc (.cells #[.bool false, .slice A n c] 24) = v1 at *
        replace h := h.go hb
        have q_a0 := x_a.c0; have q_a1 := x_a.c1; have f_a0 := x_a.fr 0; have f_a1 := x_a.fr 1
        go_wp2_with fail
        refine (BitLen_any _ _ _ _ _ _ h).mono ?_
        rintro e w' ⟨rfl, rfl⟩
        rw [HN.out, HB.out]
        go_wp2_with fail
        refine (lowLimb_any _ _ _ _ _ _ h).mono ?_
        rintro e w' ⟨rfl, rfl⟩
        rw [HL.out]
        go_wp2
        all_goals go_ret2
        all_goals exact SmPost.yes (by rw [zi_false, HX.out]; omega) (by rw [zi_false, HX.out]) hb
      · skip
        go_enter Try.func10, Try.ntmps10
        go_wp2_with fail
        obtain ⟨hb, x_a⟩ := box1 w false A n c
        generalize w.alloc (.cells #[.bool false, .slice A n c] 24) = v1 at *
        replace h := h.go hb
        have q_a0 := x_a.c0; have q_a1 := x_a.c1; have f_a0 := x_a.fr 0; have f_a1 := x_a.fr 1
        go_wp2_with fail
        refine (BitLen_any _ _ _ _ _ _ h).mono ?_
        rintro e w' ⟨rfl, rfl⟩
        rw [HN.out, HB.out]
        go_wp2_with fail
        refine (lowLimb_any _ _ _ _ _ _ h).mono ?_
        rintro e w' ⟨rfl, rfl⟩
        rw [HL.out]
        go_wp2
        all_goals go_ret2
        all_goals exact SmPost.no (by rw [zi_false, HX.out]; omega) hb
    · by_cases h63 : x ≤ 9223372036854775808
      · skip
        have hw : IntKind.i64.wrap (IntKind.u64.wrap (-x)) = -x := i64_u64_neg x0 h63
        go_enter Try.func10, Try.ntmps10
        go_wp2_with fail
        obtain ⟨hb, x_a⟩ := box1 w true A n c
        generalize w.alloc (.cells #[.bool true, .slice A n c] 24) = v1 at *
        replace h := h.go hb
        have q_a0 := x_a.c0; have q_a1 := x_a.c1; have f_a0 := x_a.fr 0; have f_a1 := x_a.fr 1
        go_wp2_with fail
        refine (BitLen_any _ _ _ _ _ _ h).mono ?_
        rintro e w' ⟨rfl, rfl⟩
        rw [HN.out, HB.out]
        go_wp2_with fail
        refine (lowLimb_any _ _ _ _ _ _ h).mono ?_
        rintro e w' ⟨rfl, rfl⟩
        rw [HL.out]
        go_wp2
        all_goals go_ret2
        all_goals exact SmPost.yes (by rw [zi_true, HX.out]; omega) (by rw [zi_true, HX.out]) hb
      · skip
        go_enter Try.func10, Try.ntmps10
        go_wp2_with fail
        obtain ⟨hb, x_a⟩ := box1 w true A n c
        generalize w.alloc (.cells #[.bool true, .slice A n c] 24) = v1 at *
        replace h := h.go hb
        have q_a0 := x_a.c0; have q_a1 := x_a.c1; have f_a0 := x_a.fr 0; have f_a1 := x_a.fr 1
        go_wp2_with fail
        refine (BitLen_any _ _ _ _ _ _ h).mono ?_
        rintro e w' ⟨rfl, rfl⟩
        rw [HN.out, HB.out]
        go_wp2_with fail
        refine (lowLimb_any _ _ _ _ _ _ h).mono ?_
        rintro e w' ⟨rfl, rfl⟩
        rw [HL.out]
        go_wp2
        all_goals go_ret2
        all_goals exact SmPost.no (by rw [zi_true, HX.out]; omega) hb

end Go.Proofs.Ytcoidcbbdibnaaa
