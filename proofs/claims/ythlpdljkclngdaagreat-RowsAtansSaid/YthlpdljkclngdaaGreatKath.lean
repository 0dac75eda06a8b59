/-
  rows: Atanh, Atan, both answers.
-/
import Derived.Test.YthlpdljkclngdaaGreatKref
import Derived.Test.YthlpdljkclngdaaGreatRatan
namespace Go.Proofs.YthlpdljkclngdaaGreat
open Go.RowKit
set_option linter.unusedVariables false

theorem RAtanh_is {b : Bool} {A : Option Addr} {n c : Nat} {X : Int} {j : Nat} {w : World} (h : Zr w b A n c X j) (q m : Int) (hj : j ≤ 20) : Calls Tryz.prog 13 #[.agg #[.bool b, .slice A n c], .int .i64 q, .int .i64 m] w (FvPost w 1 X q m) := by
  rcases hok : okB X q m (dK 1) with _ | _
  · exact (RAtanh_no h q m 25 ((may_11 X q m).trans hok) hj).mono fun e w' he => ⟨0, 0, 1, he, Or.inr ⟨hok, rfl, rfl, rfl⟩⟩
  · obtain ⟨Q, M, rfl, rfl, h1, h2, h3, h4, h5⟩ := ok_is hok
    have hd : dK 1 = 1 := rfl
    rw [hd] at h5
    exact (RAtanh_yes h Q M h1 ⟨h2, h3⟩ ⟨h4, by omega⟩ hj).mono fun e w' he => ⟨_, _, 0, he, Or.inl ⟨hok, rfl, rfl, rfl⟩⟩
theorem KAtanh_fv {b : Bool} {A : Option Addr} {n c : Nat} {X : Int} {j : Nat} {w : World} (h : Zr w b A n c X j) (q m : Int) (hj : j ≤ 20) : Calls Tryz.prog 12 #[.agg #[.bool b, .slice A n c], .int .i64 q, .int .i64 m] w (Ou2 w (fvP 1 X q m) (fvR 1 X q m) (fvX 1 X q m) 25) := (KAtanh_is h q m hj).mono fun _ _ h => fv_of h
theorem RAtanh_fv {b : Bool} {A : Option Addr} {n c : Nat} {X : Int} {j : Nat} {w : World} (h : Zr w b A n c X j) (q m : Int) (hj : j ≤ 20) : Calls Tryz.prog 13 #[.agg #[.bool b, .slice A n c], .int .i64 q, .int .i64 m] w (Ou2 w (fvP 1 X q m) (fvR 1 X q m) (fvX 1 X q m) 25) := (RAtanh_is h q m hj).mono fun _ _ h => fv_of h
theorem RAtan_is {b : Bool} {A : Option Addr} {n c : Nat} {X : Int} {j : Nat} {w : World} (h : Zr w b A n c X j) (q m : Int) (hj : j ≤ 20) : Calls Tryz.prog 15 #[.agg #[.bool b, .slice A n c], .int .i64 q, .int .i64 m] w (FvPost w 2 X q m) := by
  rcases hok : okB X q m (dK 2) with _ | _
  · exact (RAtan_no h q m 25 ((may_11 X q m).trans hok) hj).mono fun e w' he => ⟨0, 0, 1, he, Or.inr ⟨hok, rfl, rfl, rfl⟩⟩
  · obtain ⟨Q, M, rfl, rfl, h1, h2, h3, h4, h5⟩ := ok_is hok
    have hd : dK 2 = 1 := rfl
    rw [hd] at h5
    exact (RAtan_yes h Q M h1 ⟨h2, h3⟩ ⟨h4, by omega⟩ hj).mono fun e w' he => ⟨_, _, 0, he, Or.inl ⟨hok, rfl, rfl, rfl⟩⟩
theorem KAtan_fv {b : Bool} {A : Option Addr} {n c : Nat} {X : Int} {j : Nat} {w : World} (h : Zr w b A n c X j) (q m : Int) (hj : j ≤ 20) : Calls Tryz.prog 14 #[.agg #[.bool b, .slice A n c], .int .i64 q, .int .i64 m] w (Ou2 w (fvP 2 X q m) (fvR 2 X q m) (fvX 2 X q m) 25) := (KAtan_is h q m hj).mono fun _ _ h => fv_of h
theorem RAtan_fv {b : Bool} {A : Option Addr} {n c : Nat} {X : Int} {j : Nat} {w : World} (h : Zr w b A n c X j) (q m : Int) (hj : j ≤ 20) : Calls Tryz.prog 15 #[.agg #[.bool b, .slice A n c], .int .i64 q, .int .i64 m] w (Ou2 w (fvP 2 X q m) (fvR 2 X q m) (fvX 2 X q m) 25) := (RAtan_is h q m hj).mono fun _ _ h => fv_of h
end Go.Proofs.YthlpdljkclngdaaGreat
