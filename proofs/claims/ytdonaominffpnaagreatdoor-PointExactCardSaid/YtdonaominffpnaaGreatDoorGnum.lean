/-
 point: the numbers of Gap.
-/
import Derived.Test.YtdonaominffpnaaGreatDoorPa
namespace Go.Proofs.YtdonaominffpnaaGreatDoor
variable {T hi lo x : Int} {s : Nat}
set_option linter.unusedVariables false
def npI (lo hi T : Int) : Int := if lo / T * T + T ≤ hi then 0 else min (lo - lo / T * T) (lo / T * T + T - hi)
def dsI (x T : Int) : Int := min (x % T) (T - x % T)
def gaL (lo hi : Int) (s : Nat) : Int := npI lo hi (2 ^ s)
def gaM (lo hi : Int) (s : Nat) : Int := 2 ^ s / 2 - npI (lo - 2 ^ s / 2) (hi - 2 ^ s / 2) (2 ^ s)
theorem np_nn (hT : 0 < T) : 0 ≤ npI lo hi T := by
 have a := Int.emod_add_mul_ediv lo T
 have b := Int.emod_nonneg lo (show T ≠ 0 by omega)
 unfold npI
 rw [Int.mul_comm] at a
 split <;> omega
theorem np_le (hT : 0 < T) (h : lo ≤ x) (h2 : x ≤ hi) : npI lo hi T ≤ dsI x T := by
 have a := Int.emod_add_mul_ediv lo T
 have b := Int.emod_nonneg lo (show T ≠ 0 by omega)
 have b2 := Int.emod_lt_of_pos lo hT
 have c := Int.emod_add_mul_ediv x T
 have d := Int.emod_nonneg x (show T ≠ 0 by omega)
 have d2 := Int.emod_lt_of_pos x hT
 unfold npI dsI
 rw [Int.mul_comm] at a c
 split
 ·omega
 ·rename_i hn
  have e : x / T = lo / T := by
   refine ((Int.ediv_emod_unique (r := x - lo / T * T) hT).2 ⟨?_, ?_, ?_⟩).1
   ·rw [Int.mul_comm T]; omega
   ·omega
   ·omega
  rw [e] at c
  omega
theorem even_half (h : 0 < s) : ∃ H : Int, 0 < H ∧ (2 : Int) ^ s = 2 * H ∧ (2 : Int) ^ s / 2 = H ∧ (2 : Int) ^ (s - 1) = H := by
 obtain ⟨k, rfl⟩ : ∃ k, s = k + 1 := ⟨s - 1, by omega⟩
 have p : (0 : Int) < 2 ^ k := Int.pow_pos (by omega)
 refine ⟨2 ^ k, p, ?_, ?_, by simp⟩
 ·rw [Int.pow_succ]; omega
 ·rw [Int.pow_succ]; omega
theorem ds_half {H : Int} (hH : 0 < H) : dsI (x - H) (2 * H) = H - dsI x (2 * H) := by
 have c := Int.emod_add_mul_ediv x (2 * H)
 have d := Int.emod_nonneg x (show 2 * H ≠ 0 by omega)
 have d2 := Int.emod_lt_of_pos x (show 0 < 2 * H by omega)
 unfold dsI
 rcases (show x % (2 * H) < H ∨ H ≤ x % (2 * H) by omega) with g | g
 ·have e : (x - H) % (2 * H) = x % (2 * H) + H := by
   refine ((Int.ediv_emod_unique (q := x / (2 * H) - 1) (show 0 < 2 * H by omega)).2 ⟨?_, ?_, ?_⟩).2
   ·rw [Int.mul_sub]; omega
   ·omega
   ·omega
  rw [e]; omega
 ·have e : (x - H) % (2 * H) = x % (2 * H) - H := by
   refine ((Int.ediv_emod_unique (q := x / (2 * H)) (show 0 < 2 * H by omega)).2 ⟨?_, ?_, ?_⟩).2
   ·omega
   ·omega
   ·omega
  rw [e]; omega
theorem ds_one (x : Int) : dsI x 1 = 0 := by unfold dsI; omega
theorem np_one (lo hi : Int) (h : lo ≤ hi) : npI lo hi 1 = 0 := by unfold npI; split <;> omega
theorem ga_in (h : lo ≤ x) (h2 : x ≤ hi) : 0 ≤ gaL lo hi s ∧ gaL lo hi s ≤ dsI x (2 ^ s) ∧ dsI x (2 ^ s) ≤ gaM lo hi s ∧ 2 * gaM lo hi s ≤ 2 ^ s := by
 have p : (0 : Int) < 2 ^ s := Int.pow_pos (by omega)
 refine ⟨np_nn p, np_le p h h2, ?_, ?_⟩
 ·unfold gaM
  rcases Nat.eq_zero_or_pos s with rfl | hs
  ·rw [show (2 : Int) ^ 0 = 1 by rfl, ds_one, np_one _ _ (by omega)]; omega
  ·obtain ⟨H, h0, h1, h3, _⟩ := even_half hs
   rw [h3, h1]
   have := np_le (lo := lo - H) (hi := hi - H) (x := x - H) (T := 2 * H) (by omega) (by omega) (by omega)
   rw [ds_half h0] at this
   omega
 ·unfold gaM
  have := np_nn (lo := lo - 2 ^ s / 2) (hi := hi - 2 ^ s / 2) p
  omega
theorem np_ref (hT : 0 < T) (h : lo ≤ hi) : npI lo hi T = if -(-lo / T) * T ≤ hi then 0 else min (dsI lo T) (dsI hi T) := by
 have a := Int.emod_add_mul_ediv lo T
 have b := Int.emod_nonneg lo (show T ≠ 0 by omega)
 have b2 := Int.emod_lt_of_pos lo hT
 have c := Int.emod_add_mul_ediv hi T
 have d := Int.emod_nonneg hi (show T ≠ 0 by omega)
 have d2 := Int.emod_lt_of_pos hi hT
 rw [Int.mul_comm] at a c
 rcases (show lo % T = 0 ∨ 0 < lo % T by omega) with g | g
 ·have e : -lo / T = -(lo / T) := by
   refine ((Int.ediv_emod_unique (r := 0) hT).2 ⟨?_, ?_, ?_⟩).1
   ·rw [Int.mul_neg, Int.mul_comm]; omega
   ·omega
   ·omega
  have z : npI lo hi T = 0 := by unfold npI; split <;> omega
  rw [e, Int.neg_neg, z, if_pos (by omega)]
 ·have e : -lo / T = -(lo / T) - 1 := by
   refine ((Int.ediv_emod_unique (r := T - lo % T) hT).2 ⟨?_, ?_, ?_⟩).1
   ·rw [Int.mul_sub, Int.mul_neg, Int.mul_comm]; omega
   ·omega
   ·omega
  rw [e]
  have k : -(-(lo / T) - 1) * T = lo / T * T + T := by
   rw [show -(-(lo / T) - 1) = lo / T + 1 by omega, Int.add_mul]; omega
  rw [k]
  unfold npI
  split
  ·rfl
  ·rename_i hn
   have e2 : hi / T = lo / T := by
    refine ((Int.ediv_emod_unique (r := hi - lo / T * T) hT).2 ⟨?_, ?_, ?_⟩).1
    ·rw [Int.mul_comm T]; omega
    ·omega
    ·omega
   rw [e2] at c
   unfold dsI
   omega
theorem gaM_ref (h : lo ≤ hi) : gaM lo hi s = if s = 0 then max (dsI lo (2 ^ s)) (dsI hi (2 ^ s)) else if -(-(lo - 2 ^ (s - 1)) / 2 ^ s) * 2 ^ s + 2 ^ (s - 1) ≤ hi then 2 ^ (s - 1) else max (dsI lo (2 ^ s)) (dsI hi (2 ^ s)) := by
 unfold gaM
 rcases Nat.eq_zero_or_pos s with rfl | hs
 ·rw [if_pos rfl, show (2 : Int) ^ 0 = 1 by rfl, ds_one, ds_one, np_one _ _ (by omega)]; rfl
 ·rw [if_neg (by omega)]
  obtain ⟨H, h0, h1, h3, h4⟩ := even_half hs
  rw [h3, h4, h1, np_ref (by omega) (by omega), ds_half h0, ds_half h0]
  split
  ·rw [if_pos (by omega)]; omega
  ·rw [if_neg (by omega)]; omega
end Go.Proofs.YtdonaominffpnaaGreatDoor
