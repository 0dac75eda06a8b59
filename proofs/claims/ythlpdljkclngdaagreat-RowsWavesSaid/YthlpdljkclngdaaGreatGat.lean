/-
  a gathered slice of integers: what lies at a place of it.
-/
import Derived.Test.YthlpdljkclngdaaGreatGgath
namespace Go.Proofs.YthlpdljkclngdaaGreat
open Go.RowKit
set_option linter.unusedVariables false

theorem Cz.at_ {w : World} {J : Nat} : ∀ {l : List Int} {xs : List Value}, Cz w J xs l → ∀ (k : Nat) (hk : k < l.length), ∃ A n c, xs[2 * k]? = some (.bool (ngB l[k])) ∧ xs[2 * k + 1]? = some (.slice A n c) ∧ Zn w A n c l[k] J
  | [], xs, h, k, hk => absurd hk (by simp)
  | X :: l, xs, h, k, hk => by
    obtain ⟨A, n, c, ys, rfl, hz, hc⟩ := h
    cases k with
    | zero => exact ⟨A, n, c, rfl, rfl, hz⟩
    | succ k =>
      obtain ⟨A1, n1, c1, h1, h2, h3⟩ := Cz.at_ hc k (by simpa using hk)
      exact ⟨A1, n1, c1, by rw [show 2 * (k + 1) = 2 * k + 1 + 1 by omega]; simpa using h1, by rw [show 2 * (k + 1) + 1 = 2 * k + 1 + 1 + 1 by omega]; simpa using h2, by simpa using h3⟩
theorem Oz.row {w : World} {g n cap : Nat} {xs : List Value} (h : Oz w g n cap xs) {i : Nat} {u : Value} (hu : xs[i]? = some u) : w.cell? ⟨g, i, none⟩ = some u := by
  obtain ⟨cur, hh, _, _, hcs, htk, hxl, _⟩ := h
  have hil : i < n * 2 := by have := (List.getElem?_eq_some_iff.1 hu).1; omega
  rw [cell_of_row w g i _ _ (0, 0) hh]
  rw [← htk, List.getElem?_take_of_lt hil] at hu
  simpa using hu
/-- A gathered slice that is not empty: where it lies, and what lies at each of its places. -/
theorem Gz.at_ {w : World} {B J : Nat} {s : Value} {l : List Int} (h : Gz w B J s l) (hl : 0 < l.length) :
    ∃ g cap, s = .slice (some ⟨g, 0, none⟩) l.length cap ∧ B ≤ g ∧ g < w.heap.size ∧ ∀ (k : Nat) (hk : k < l.length), ∃ A n c, w.cell? ⟨g, k * 2, none⟩ = some (.bool (ngB l[k])) ∧ w.cell? ⟨g, k * 2 + 1, none⟩ = some (.slice A n c) ∧ Zn w A n c l[k] J := by
  rcases h with ⟨_, rfl⟩ | ⟨g, cap, xs, rfl, h2, h3, h4⟩
  · simp at hl
  · refine ⟨g, cap, rfl, h2, h3.lt, fun k hk => ?_⟩
    obtain ⟨A, n, c, i1, i2, i3⟩ := h4.at_ k hk
    exact ⟨A, n, c, h3.row (by rw [Nat.mul_comm]; exact i1), h3.row (by rw [Nat.mul_comm]; exact i2), i3⟩
end Go.Proofs.YthlpdljkclngdaaGreat
