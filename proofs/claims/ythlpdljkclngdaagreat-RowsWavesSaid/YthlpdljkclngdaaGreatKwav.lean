/-
  rows: Sin, Cos, both answers.
-/
import Derived.Test.YthlpdljkclngdaaGreatKref
import Derived.Test.YthlpdljkclngdaaGreatRsico
namespace Go.Proofs.YthlpdljkclngdaaGreat
open Go.RowKit
set_option linter.unusedVariables false

theorem RSin_is {b : Bool} {A : Option Addr} {n c : Nat} {X : Int} {j : Nat} {w : World} (h : Zr w b A n c X j) (q m : Int) (hj : j ≤ 20) : Calls Tryz.prog 17 #[.agg #[.bool b, .slice A n c], .int .i64 q, .int .i64 m] w (FvPost w 3 X q m) := by
  rcases hok : okB X q m (dK 3) with _ | _
  · exact (RSin_no h q m 25 ((may_20 X q m).trans hok) hj).mono fun e w' he => ⟨0, 0, 1, he, Or.inr ⟨hok, rfl, rfl, rfl⟩⟩
  · obtain ⟨Q, M, rfl, rfl, h1, h2, h3, h4, h5⟩ := ok_is hok
    have hd : dK 3 = 4 := rfl
    rw [hd] at h5
    exact (RSin_yes h Q M h1 ⟨h2, h3⟩ ⟨h4, by omega⟩ hj).mono fun e w' he => ⟨_, _, 0, he, Or.inl ⟨hok, rfl, rfl, rfl⟩⟩
theorem KSin_fv {b : Bool} {A : Option Addr} {n c : Nat} {X : Int} {j : Nat} {w : World} (h : Zr w b A n c X j) (q m : Int) (hj : j ≤ 20) : Calls Tryz.prog 16 #[.agg #[.bool b, .slice A n c], .int .i64 q, .int .i64 m] w (Ou2 w (fvP 3 X q m) (fvR 3 X q m) (fvX 3 X q m) 25) := (KSin_is h q m hj).mono fun _ _ h => fv_of h
theorem RSin_fv {b : Bool} {A : Option Addr} {n c : Nat} {X : Int} {j : Nat} {w : World} (h : Zr w b A n c X j) (q m : Int) (hj : j ≤ 20) : Calls Tryz.prog 17 #[.agg #[.bool b, .slice A n c], .int .i64 q, .int .i64 m] w (Ou2 w (fvP 3 X q m) (fvR 3 X q m) (fvX 3 X q m) 25) := (RSin_is h q m hj).mono fun _ _ h => fv_of h
theorem RCos_is {b : Bool} {A : Option Addr} {n c : Nat} {X : Int} {j : Nat} {w : World} (h : Zr w b A n c X j) (q m : Int) (hj : j ≤ 20) : Calls Tryz.prog 19 #[.agg #[.bool b, .slice A n c], .int .i64 q, .int .i64 m] w (FvPost w 4 X q m) := by
  rcases hok : okB X q m (dK 4) with _ | _
  · exact (RCos_no h q m 25 ((may_20 X q m).trans hok) hj).mono fun e w' he => ⟨0, 0, 1, he, Or.inr ⟨hok, rfl, rfl, rfl⟩⟩
  · obtain ⟨Q, M, rfl, rfl, h1, h2, h3, h4, h5⟩ := ok_is hok
    have hd : dK 4 = 4 := rfl
    rw [hd] at h5
    exact (RCos_yes h Q M h1 ⟨h2, h3⟩ ⟨h4, by omega⟩ hj).mono fun e w' he => ⟨_, _, 0, he, Or.inl ⟨hok, rfl, rfl, rfl⟩⟩
theorem KCos_fv {b : Bool} {A : Option Addr} {n c : Nat} {X : Int} {j : Nat} {w : World} (h : Zr w b A n c X j) (q m : Int) (hj : j ≤ 20) : Calls Tryz.prog 18 #[.agg #[.bool b, .slice A n c], .int .i64 q, .int .i64 m] w (Ou2 w (fvP 4 X q m) (fvR 4 X q m) (fvX 4 X q m) 25) := (KCos_is h q m hj).mono fun _ _ h => fv_of h
theorem RCos_fv {b : Bool} {A : Option Addr} {n c : Nat} {X : Int} {j : Nat} {w : World} (h : Zr w b A n c X j) (q m : Int) (hj : j ≤ 20) : Calls Tryz.prog 19 #[.agg #[.bool b, .slice A n c], .int .i64 q, .int .i64 m] w (Ou2 w (fvP 4 X q m) (fvR 4 X q m) (fvX 4 X q m) 25) := (RCos_is h q m hj).mono fun _ _ h => fv_of h
end Go.Proofs.YthlpdljkclngdaaGreat
