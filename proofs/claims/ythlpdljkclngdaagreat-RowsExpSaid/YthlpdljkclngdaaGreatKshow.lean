/-
  the laws of rows: sum, few, part.
-/
import Derived.Test.YthlpdljkclngdaaGreatKexp
import Derived.Test.YthlpdljkclngdaaGreatKatanh
import Derived.Test.YthlpdljkclngdaaGreatKatan
import Derived.Test.YthlpdljkclngdaaGreatKsin
import Derived.Test.YthlpdljkclngdaaGreatKcos
import Derived.Test.YthlpdljkclngdaaGreatKcut
namespace Go.Proofs.YthlpdljkclngdaaGreat
open Go.RowKit
set_option linter.unusedVariables false

theorem Zr.nul (w : World) : Zr w false none 0 0 0 0 := ⟨[], Rd.nil, rfl, Nat.le_refl _⟩
/-- How many halves the number of each function may have at most. -/
def dK (kind : Nat) : Int := match kind with
  | 0 => 2
  | 1 => 1
  | 2 => 1
  | _ => 4
/-- What each of the five answers. -/
def FvPost (w : World) (kind : Nat) (X q m : Int) (e : Ending) (w' : World) : Prop :=
  ∃ P R x, Ou2 w P R x 25 e w' ∧ ((okB X q m (dK kind) = true ∧ P = rwLo kind X q.toNat m.toNat ∧ R = rwHi kind X q.toNat m.toNat ∧ x = 0) ∨ (okB X q m (dK kind) = false ∧ P = 0 ∧ R = 0 ∧ x = 1))
theorem tx6_1 {N : Nat} (h : N < 10) : txL (N : Int) = [digC N] := by
  unfold txL; rw [if_neg (by omega), show (N : Int).natAbs = N by omega, decL_small h]; rfl
theorem tx6_2 {N : Nat} (h : 10 ≤ N) (h2 : N < 100) : txL (N : Int) = [digC (N / 10), digC (N % 10)] := by
  unfold txL; rw [if_neg (by omega), show (N : Int).natAbs = N by omega, decL_big h, decL_small (by omega)]; rfl
theorem tx_40 : txL 40 = [52, 48] := tx6_2 (N := 40) (by omega) (by omega)
theorem tx_46 : txL 46 = [52, 54] := tx6_2 (N := 46) (by omega) (by omega)
theorem tx_8 : txL 8 = [56] := tx6_1 (N := 8) (by omega)
theorem tx_0 : txL 0 = [48] := tx6_1 (N := 0) (by omega)
theorem KExp_is {b : Bool} {A : Option Addr} {n c : Nat} {X : Int} {j : Nat} {w : World} (h : Zr w b A n c X j) (q m : Int) (hj : j ≤ 20) : Calls Tryz.prog 9 #[.agg #[.bool b, .slice A n c], .int .i64 q, .int .i64 m] w (FvPost w 0 X q m) := by
  rcases hok : okB X q m (dK 0) with _ | _
  · exact (KExp_no h q m 25 hok (by omega)).mono fun e w' he => ⟨0, 0, 1, he, Or.inr ⟨hok, rfl, rfl, rfl⟩⟩
  · obtain ⟨Q, M, rfl, rfl, h1, h2, h3, h4, h5⟩ := ok_is hok
    exact (KExp_yes h Q M h1 ⟨h2, h3⟩ ⟨h4, h5⟩ hj).mono fun e w' he => ⟨_, _, 0, he, Or.inl ⟨hok, rfl, rfl, rfl⟩⟩
theorem KAtanh_is {b : Bool} {A : Option Addr} {n c : Nat} {X : Int} {j : Nat} {w : World} (h : Zr w b A n c X j) (q m : Int) (hj : j ≤ 20) : Calls Tryz.prog 12 #[.agg #[.bool b, .slice A n c], .int .i64 q, .int .i64 m] w (FvPost w 1 X q m) := by
  rcases hok : okB X q m (dK 1) with _ | _
  · exact (KAtanh_no h q m 25 hok (by omega)).mono fun e w' he => ⟨0, 0, 1, he, Or.inr ⟨hok, rfl, rfl, rfl⟩⟩
  · obtain ⟨Q, M, rfl, rfl, h1, h2, h3, h4, h5⟩ := ok_is hok
    exact (KAtanh_yes h Q M h1 ⟨h2, h3⟩ ⟨h4, h5⟩ hj).mono fun e w' he => ⟨_, _, 0, he, Or.inl ⟨hok, rfl, rfl, rfl⟩⟩
theorem KAtan_is {b : Bool} {A : Option Addr} {n c : Nat} {X : Int} {j : Nat} {w : World} (h : Zr w b A n c X j) (q m : Int) (hj : j ≤ 20) : Calls Tryz.prog 14 #[.agg #[.bool b, .slice A n c], .int .i64 q, .int .i64 m] w (FvPost w 2 X q m) := by
  rcases hok : okB X q m (dK 2) with _ | _
  · exact (KAtan_no h q m 25 hok (by omega)).mono fun e w' he => ⟨0, 0, 1, he, Or.inr ⟨hok, rfl, rfl, rfl⟩⟩
  · obtain ⟨Q, M, rfl, rfl, h1, h2, h3, h4, h5⟩ := ok_is hok
    exact (KAtan_yes h Q M h1 ⟨h2, h3⟩ ⟨h4, h5⟩ hj).mono fun e w' he => ⟨_, _, 0, he, Or.inl ⟨hok, rfl, rfl, rfl⟩⟩
theorem KSin_is {b : Bool} {A : Option Addr} {n c : Nat} {X : Int} {j : Nat} {w : World} (h : Zr w b A n c X j) (q m : Int) (hj : j ≤ 20) : Calls Tryz.prog 16 #[.agg #[.bool b, .slice A n c], .int .i64 q, .int .i64 m] w (FvPost w 3 X q m) := by
  rcases hok : okB X q m (dK 3) with _ | _
  · exact (KSin_no h q m 25 hok (by omega)).mono fun e w' he => ⟨0, 0, 1, he, Or.inr ⟨hok, rfl, rfl, rfl⟩⟩
  · obtain ⟨Q, M, rfl, rfl, h1, h2, h3, h4, h5⟩ := ok_is hok
    exact (KSin_yes h Q M h1 ⟨h2, h3⟩ ⟨h4, h5⟩ hj).mono fun e w' he => ⟨_, _, 0, he, Or.inl ⟨hok, rfl, rfl, rfl⟩⟩
theorem KCos_is {b : Bool} {A : Option Addr} {n c : Nat} {X : Int} {j : Nat} {w : World} (h : Zr w b A n c X j) (q m : Int) (hj : j ≤ 20) : Calls Tryz.prog 18 #[.agg #[.bool b, .slice A n c], .int .i64 q, .int .i64 m] w (FvPost w 4 X q m) := by
  rcases hok : okB X q m (dK 4) with _ | _
  · exact (KCos_no h q m 25 hok (by omega)).mono fun e w' he => ⟨0, 0, 1, he, Or.inr ⟨hok, rfl, rfl, rfl⟩⟩
  · obtain ⟨Q, M, rfl, rfl, h1, h2, h3, h4, h5⟩ := ok_is hok
    exact (KCos_yes h Q M h1 ⟨h2, h3⟩ ⟨h4, h5⟩ hj).mono fun e w' he => ⟨_, _, 0, he, Or.inl ⟨hok, rfl, rfl, rfl⟩⟩
/-- Fewer terms of more places. -/
def fewI (q n : Int) : Int := if 200 < q ∧ 40 < n then 40 else n
set_option maxRecDepth 100000 in
set_option maxHeartbeats 2000000 in
theorem Few_any (q n : Int) (w : World) :
    Calls Tryz.prog 8 #[.int .i64 q, .int .i64 n] w fun e w' => e = .returned (.int .i64 (fewI q n)) ∧ Below w.heap.size w w' := by
  have hb := Below.refl w.heap.size w
  rcases (show 200 < q ∨ ¬ 200 < q by omega) with h1 | h1
  · rcases (show 40 < n ∨ ¬ 40 < n by omega) with h2 | h2
    · have he : fewI q n = 40 := by unfold fewI; rw [if_pos ⟨h1, h2⟩]
      rw [he]
      clear he
      go_enter Tryz.func8, Tryz.ntmps8
      go_wp2
      go_ret
      exact ⟨rfl, hb⟩
    · have he : fewI q n = n := by unfold fewI; rw [if_neg (fun h => h2 h.2)]
      rw [he]
      clear he
      go_enter Tryz.func8, Tryz.ntmps8
      go_wp2
      go_ret
      exact ⟨rfl, hb⟩
  · have he : fewI q n = n := by unfold fewI; rw [if_neg (fun h => h1 h.1)]
    rw [he]
    clear he
    go_enter Tryz.func8, Tryz.ntmps8
    go_wp2
    go_ret
    exact ⟨rfl, hb⟩

theorem part_bd (X : Int) (Q : Nat) (hQ : 1 ≤ Q) (hQ2 : Q ≤ 1200) : 0 ≤ X % (1 * 2 ^ sc ((Q : Int) - 1)) ∧ 2 * (X % (1 * 2 ^ sc ((Q : Int) - 1))) ≤ twP Q ∧ 1 * (2 : Int) ^ sc ((Q : Int) - 1) ≠ 0 := by
  have e : (1 : Int) * 2 ^ sc ((Q : Int) - 1) = twP (Q - 1) := by rw [show sc ((Q : Int) - 1) = Q - 1 by unfold sc; omega, Int.one_mul]; rfl
  have hp := tw_pos (Q - 1)
  have e2 : twP Q = twP (Q - 1) * 2 := by rw [show twP Q = twP (Q - 1 + 1) by rw [Nat.sub_add_cancel hQ]]; rfl
  rw [e, e2]
  have h1 := Int.emod_nonneg X (show twP (Q - 1) ≠ 0 by omega)
  have h2 := Int.emod_lt_of_pos X hp
  omega
end Go.Proofs.YthlpdljkclngdaaGreat
