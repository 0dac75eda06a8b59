/-
  zed: Small.
-/
import Derived.Test.YtcoidcbbdibnaaaDoorZshr
namespace Go.Proofs.YtcoidcbbdibnaaaDoor
open Go.RowKit
set_option linter.unusedVariables false

/-- The lowest limb. -/
def lowI (l : List Int) : Int := l.headD 0
set_option maxHeartbeats 400000 in
theorem lowLimb_any (A : Option Addr) (n c : Nat) (l : List Int) (w : World) (B : Nat) (h : Rd w B A n c l) :
    Calls Tryd.prog 95 #[.slice A n c] w fun e w' => e = .returned (.int .u64 (lowI l)) ∧ w = w' := by
  have hcap := h.cap
  have H := Lib.hid h.len
  rcases n with _ | t
  · have hl : l = [] := List.eq_nil_of_length_eq_zero H.out
    subst hl
    go_enter Tryd.func95, Tryd.ntmps95
    go_wp2
    go_ret
    exact ⟨rfl, rfl⟩
  · obtain ⟨b, of, rfl, hb, hc⟩ := h.at_ (by omega)
    obtain ⟨x, l, rfl⟩ : ∃ x m, l = x :: m := by
      cases l with
      | nil => have := H.out; simp at this
      | cons x m => exact ⟨x, m, rfl⟩
    have hc0 := hc 0 (by simp)
    simp only [Nat.add_zero, List.getElem_cons_zero] at hc0
    clear hc
    have hb0 : ((↑(t + 1) : Int) == 0) = false := by simp; omega
    go_enter Tryd.func95, Tryd.ntmps95
    go_wp2
    go_ret
    exact ⟨rfl, rfl⟩
theorem lowI_vl {l : List Int} (hl : Lim Wd l) (h : vl Wd l < Wd) : lowI l = ((vl Wd l : Nat) : Int) := by
  cases l with
  | nil => rfl
  | cons x m =>
    have h1 := (Lim_cons.1 hl).1
    rw [vl_cons] at h ⊢
    have : vl Wd m = 0 := by
      rcases Nat.eq_zero_or_pos (vl Wd m) with h0 | h0
      · exact h0
      · have := Nat.mul_le_mul_left Wd h0; omega
    rw [this]
    show x = _
    omega
/-- Is it an int64? -/
def smB (X : Int) : Bool := decide (-9223372036854775808 ≤ X ∧ X ≤ 9223372036854775807)
def smI (X : Int) : Int := if smB X then X else 0
theorem smB_no {X : Int} (h : ¬ (-9223372036854775808 ≤ X ∧ X ≤ 9223372036854775807)) : smB X = false ∧ smI X = 0 := by
  have : smB X = false := by unfold smB; exact decide_eq_false h
  exact ⟨this, by unfold smI; rw [this]; rfl⟩
theorem smB_yes {X : Int} (h : -9223372036854775808 ≤ X ∧ X ≤ 9223372036854775807) : smB X = true ∧ smI X = X := by
  have : smB X = true := by unfold smB; exact decide_eq_true h
  exact ⟨this, by unfold smI; rw [this]; rfl⟩
def SmPost (w : World) (X : Int) (e : Ending) (w' : World) : Prop := e = .returned (.tuple #[.int .i64 (smI X), .bool (smB X)]) ∧ Below w.heap.size w w'
theorem SmPost.no {w w' : World} {X : Int} (h : ¬ (-9223372036854775808 ≤ X ∧ X ≤ 9223372036854775807)) (hb : Below w.heap.size w w') : SmPost w X (.returned (.tuple #[.int .i64 0, .bool false])) w' := by
  obtain ⟨a, b⟩ := smB_no h; exact ⟨by rw [a, b], hb⟩
theorem SmPost.yes {w w' : World} {X y : Int} (h : -9223372036854775808 ≤ X ∧ X ≤ 9223372036854775807) (hy : y = X) (hb : Below w.heap.size w w') : SmPost w X (.returned (.tuple #[.int .i64 y, .bool true])) w' := by
  obtain ⟨a, b⟩ := smB_yes h; exact ⟨by rw [a, b, hy], hb⟩
theorem i64_keep {n : Int} (h0 : -9223372036854775808 ≤ n) (h1 : n ≤ 9223372036854775807) : IntKind.i64.wrap n = n := IntWalk.i64_in _ ⟨h0, h1⟩
theorem i64_u64_neg {x : Int} (h0 : 0 ≤ x) (h1 : x ≤ 9223372036854775808) : IntKind.i64.wrap (IntKind.u64.wrap (-x)) = -x := by
  rw [wrap_u64, IntKind.wrap_i64]; omega
theorem bl_lt {N k : Nat} (h : bl N ≤ k) : N < 2 ^ k := Nat.lt_of_lt_of_le (lt_bl N) (Nat.pow_le_pow_right (by omega) h)

end Go.Proofs.YtcoidcbbdibnaaaDoor
