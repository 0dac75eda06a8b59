/-
 elem: the numbers of the steps, at few arguments.
-/
import Derived.Test.YtdonaominffpnaaGreatDoorElem
import Derived.Test.YtdonaominffpnaaGreatDoorGpat
namespace Go.Proofs.YtdonaominffpnaaGreatDoor
variable {n w : Nat} {t : Int}
set_option linter.unusedVariables false
open Go.RowKit
def bLo (M e : Int) (w : Nat) : Int := flI M (e + w)
def bHi (M e : Int) (w : Nat) : Int := -flI (-M) (e + w)
theorem tw_big (h : 40 ≤ w) : 1099511627776 ≤ twP w := by
 obtain ⟨k, rfl⟩ : ∃ k, w = 40 + k := ⟨w - 40, by omega⟩
 rw [tw_add]
 have a := tw_pos k
 have b : twP 40 = 1099511627776 := by decide
 rw [b]; omega
theorem sw_si {X : Int} (hw : w < 341) (h0 : -(2000 * twP w) ≤ X) (h : X ≤ 2000 * twP w) : Si X 8 := si_twL (K := 2000) (Q := w) (by omega) (by omega) (by omega) (by omega)
theorem ln_si (hw : w < 341) : Si (lnA w) 8 ∧ Si (lnZ w) 8 := by
 have b := (ln_in hw).2
 have p := tw_pos w
 exact ⟨sw_si hw (by omega) (by omega), sw_si hw (by omega) (by omega)⟩
theorem one_is {W : Nat} (hW : W < 341) : (bLo 1 0 W = twP W ∧ bHi 1 0 W = twP W) ∧ Si (bLo 1 0 W) 8 ∧ Si (bHi 1 0 W) 8 := by
 have e1 : bLo 1 0 W = twP W := by unfold bLo flI twP; rcases Nat.eq_zero_or_pos W with rfl | h; · rfl
                                   rw [if_neg (by omega)]; simp
 have e2 : bHi 1 0 W = twP W := by unfold bHi flI twP; rcases Nat.eq_zero_or_pos W with rfl | h; · rfl
                                   rw [if_neg (by omega)]; simp
 have p := tw_pos W
 rw [e1, e2]
 exact ⟨⟨rfl, rfl⟩, si_twL (K := 1) (Q := W) (by omega) (by omega) (by omega) (by omega), si_twL (K := 1) (Q := W) (by omega) (by omega) (by omega) (by omega)⟩
theorem dv_one {T Z : Int} (h0 : 0 < Z) (h : Z ≤ T) (h2 : T < 2 * Z) : T / Z = 1 := by
 have a := (le_dv (a := 1) (b := T) h0).2 (by omega)
 have b := Int.ediv_lt_of_lt_mul h0 h2
 omega
theorem fl_z (k : Int) : flI 0 k = 0 := by unfold flI; split <;> simp
theorem rw_e0 (w n : Nat) (hn : 1 ≤ n) : rwLo 0 0 w n = twP w ∧ rwHi 0 0 w n = twP w := by
 have u : ∀ k, exU 0 w (k + 1) = 0 := fun k => by show exU 0 w k * 0 / _ = 0; simp
 have v : ∀ k, exV 0 w (k + 1) = 0 := fun k => by show -(-(exV 0 w k * 0) / _) = 0; simp
 have s : ∀ f : Nat → Int, (∀ k, f (k + 1) = 0) → ∀ m, sumI f (m + 1) = f 0 := fun f hf m => by
  induction m with
  | zero => show 0 + f 0 = _; omega
  | succ m ih => show sumI f (m + 1) + f (m + 1) = _; rw [ih, hf]; omega
 obtain ⟨m, rfl⟩ : ∃ m, n = m + 1 := ⟨n - 1, by omega⟩
 refine ⟨s _ u m, ?_⟩
 show sumI (exV 0 w) (m + 1) + 2 * exV 0 w (m + 1) = _
 rw [s _ v m, v m]; exact Int.add_zero _
theorem rw_a0 (w n : Nat) : rwLo 1 0 w n = 0 ∧ rwHi 1 0 w n = 0 := by
 have u : ∀ k, taU 0 w k = 0 := fun k => by
  induction k with
  | zero => rfl
  | succ k ih => show taU 0 w k * _ / _ = 0; rw [ih]; simp
 have v : ∀ k, taV 0 w k = 0 := fun k => by
  induction k with
  | zero => rfl
  | succ k ih => show -(-(taV 0 w k * _) / _) = 0; rw [ih]; simp
 have s : ∀ f : Nat → Int, (∀ k, f k = 0) → ∀ m, sumI f m = 0 := fun f hf m => by
  induction m with
  | zero => rfl
  | succ m ih => show sumI f m + f m = _; rw [ih, hf]; omega
 have c : ∀ k, taC 0 w k = 0 := fun k => by unfold taC; rw [u]; simp
 have d : ∀ k, taD 0 w k = 0 := fun k => by unfold taD; rw [v]; simp
 refine ⟨s _ c n, ?_⟩
 show sumI (taD 0 w) n + 2 * taD 0 w n = _
 rw [s _ d n, d n]; rfl
theorem rw_nb (h0 : 0 ≤ t) (h : t ≤ twP w) (hn : n ≤ 120) : (0 ≤ rwLo 0 t w n ∧ rwLo 0 t w n ≤ 420 * twP w) ∧ 0 ≤ rwHi 0 t w n ∧ rwHi 0 t w n ≤ 420 * twP w := by
 have p := tw_pos w
 have b := fun k => ex_bd h0 h k
 have s1 := sum_bd (fun k => (b k).1) (fun k => Int.le_trans (b k).2.1 (b k).2.2) n
 have s2 := sum_bd (fun k => Int.le_trans (b k).1 (b k).2.1) (fun k => (b k).2.2) n
 have b2 := b n
 have a : (n : Int) * twP w ≤ 120 * twP w := Int.mul_le_mul_of_nonneg_right (by omega) (by omega)
 have e1 : rwLo 0 t w n = sumI (exU t w) n := rfl
 have e2 : rwHi 0 t w n = sumI (exV t w) n + 2 * exV t w n := rfl
 rw [e1, e2]
 omega
theorem rw_sw (h0 : 0 ≤ t) (h : t ≤ twP w) (hw : w < 341) (hn : n ≤ 120) : Si (rwLo 0 t w n) 8 ∧ Si (rwHi 0 t w n) 8 := by
 have h := rw_nb h0 h hn
 have p := tw_pos w
 exact ⟨sw_si hw (by omega) (by omega), sw_si hw (by omega) (by omega)⟩
end Go.Proofs.YtdonaominffpnaaGreatDoor
