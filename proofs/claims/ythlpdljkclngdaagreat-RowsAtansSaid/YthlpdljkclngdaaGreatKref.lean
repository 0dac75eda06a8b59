/-
  the laws of rows: the document's answers.
-/
import Derived.Test.YthlpdljkclngdaaGreatKshwn
import Derived.Test.YthlpdljkclngdaaGreatRno
namespace Go.Proofs.YthlpdljkclngdaaGreat
open Go.RowKit
set_option linter.unusedVariables false

/-- What each of the five answers, as numbers. -/
def fvP (kind : Nat) (X q m : Int) : Int := if okB X q m (dK kind) = true then rwLo kind X q.toNat m.toNat else 0
def fvR (kind : Nat) (X q m : Int) : Int := if okB X q m (dK kind) = true then rwHi kind X q.toNat m.toNat else 0
def fvX (kind : Nat) (X q m : Int) : Int := if okB X q m (dK kind) = true then 0 else 1
theorem fv_of {w w' : World} {kind : Nat} {X q m : Int} {e : Ending} (h : FvPost w kind X q m e w') : Ou2 w (fvP kind X q m) (fvR kind X q m) (fvX kind X q m) 25 e w' := by
  obtain ⟨P, R, x, ho, hc⟩ := h
  unfold fvP fvR fvX
  rcases hc with ⟨hk, rfl, rfl, rfl⟩ | ⟨hk, rfl, rfl, rfl⟩
  · rw [if_pos hk, if_pos hk, if_pos hk]; exact ho
  · rw [if_neg (by rw [hk]; decide), if_neg (by rw [hk]; decide), if_neg (by rw [hk]; decide)]; exact ho
theorem may_10 (X q m : Int) : mayB X q m 1 0 = okB X q m 2 := by
  unfold mayB okB
  rw [show sc 0 = 0 from rfl]
  generalize (2 : Int) ^ sc q = T
  congr 1
  exact decide_eq_decide.2 (by omega)
theorem may_11 (X q m : Int) : mayB X q m 1 1 = okB X q m 1 := by
  unfold mayB okB
  rw [show sc 1 = 1 from rfl]
  generalize (2 : Int) ^ sc q = T
  congr 1
  exact decide_eq_decide.2 (by omega)
theorem may_20 (X q m : Int) : mayB X q m 2 0 = okB X q m 4 := by
  unfold mayB okB
  rw [show sc 0 = 0 from rfl]
  generalize (2 : Int) ^ sc q = T
  congr 1
  exact decide_eq_decide.2 (by omega)
theorem RExp_is {b : Bool} {A : Option Addr} {n c : Nat} {X : Int} {j : Nat} {w : World} (h : Zr w b A n c X j) (q m : Int) (hj : j ≤ 20) : Calls Tryz.prog 10 #[.agg #[.bool b, .slice A n c], .int .i64 q, .int .i64 m] w (FvPost w 0 X q m) := by
  rcases hok : okB X q m (dK 0) with _ | _
  · exact (RExp_no h q m 25 ((may_10 X q m).trans hok) hj).mono fun e w' he => ⟨0, 0, 1, he, Or.inr ⟨hok, rfl, rfl, rfl⟩⟩
  · obtain ⟨Q, M, rfl, rfl, h1, h2, h3, h4, h5⟩ := ok_is hok
    have hd : dK 0 = 2 := rfl
    rw [hd] at h5
    exact (RExp_yes h Q M h1 ⟨h2, h3⟩ ⟨h4, by omega⟩ hj).mono fun e w' he => ⟨_, _, 0, he, Or.inl ⟨hok, rfl, rfl, rfl⟩⟩
theorem KExp_fv {b : Bool} {A : Option Addr} {n c : Nat} {X : Int} {j : Nat} {w : World} (h : Zr w b A n c X j) (q m : Int) (hj : j ≤ 20) : Calls Tryz.prog 9 #[.agg #[.bool b, .slice A n c], .int .i64 q, .int .i64 m] w (Ou2 w (fvP 0 X q m) (fvR 0 X q m) (fvX 0 X q m) 25) := (KExp_is h q m hj).mono fun _ _ h => fv_of h
theorem RExp_fv {b : Bool} {A : Option Addr} {n c : Nat} {X : Int} {j : Nat} {w : World} (h : Zr w b A n c X j) (q m : Int) (hj : j ≤ 20) : Calls Tryz.prog 10 #[.agg #[.bool b, .slice A n c], .int .i64 q, .int .i64 m] w (Ou2 w (fvP 0 X q m) (fvR 0 X q m) (fvX 0 X q m) 25) := (RExp_is h q m hj).mono fun _ _ h => fv_of h
set_option maxRecDepth 100000 in
set_option maxHeartbeats 4000000 in
theorem Equal6_any {A A2 A3 A4 : Option Addr} {n c n2 c2 n3 c3 n4 c4 k k2 k3 k4 : Nat} {X Y : Int} {w : World} (z : Zn w A n c X k) (z2 : Zn w A2 n2 c2 X k2) (z3 : Zn w A3 n3 c3 Y k3) (z4 : Zn w A4 n4 c4 Y k4) (x : Int) :
    Calls Tryz.prog 11 #[.agg #[.bool (ngB X), .slice A n c], .agg #[.bool (ngB Y), .slice A3 n3 c3], .int .i64 x, .agg #[.bool (ngB X), .slice A2 n2 c2], .agg #[.bool (ngB Y), .slice A4 n4 c4], .int .i64 x] w fun e w' => e = .returned (.bool true) ∧ Below w.heap.size w w' := by
  go_enter Tryz.func11, Tryz.ntmps11
  go_upto_region 1 with fail
  have x_a : Bx (w.alloc (.cells #[.bool (ngB X), .slice A n c] 24)) (w.heap.size) (ngB X) A n c := by have := Bx.new w (ngB X) A n c; simpa using this
  replace x_a := x_a.alloc (.cells #[.bool (ngB Y), .slice A3 n3 c3] 24)
  have x_d : Bx ((w.alloc (.cells #[.bool (ngB X), .slice A n c] 24)).alloc (.cells #[.bool (ngB Y), .slice A3 n3 c3] 24)) (w.heap.size + 1) (ngB Y) A3 n3 c3 := by have := Bx.new (w.alloc (.cells #[.bool (ngB X), .slice A n c] 24)) (ngB Y) A3 n3 c3; simpa using this
  replace x_a := x_a.alloc (.cells #[.bool (ngB X), .slice A2 n2 c2] 24)
  replace x_d := x_d.alloc (.cells #[.bool (ngB X), .slice A2 n2 c2] 24)
  have x_e : Bx (((w.alloc (.cells #[.bool (ngB X), .slice A n c] 24)).alloc (.cells #[.bool (ngB Y), .slice A3 n3 c3] 24)).alloc (.cells #[.bool (ngB X), .slice A2 n2 c2] 24)) (w.heap.size + 1 + 1) (ngB X) A2 n2 c2 := by have := Bx.new ((w.alloc (.cells #[.bool (ngB X), .slice A n c] 24)).alloc (.cells #[.bool (ngB Y), .slice A3 n3 c3] 24)) (ngB X) A2 n2 c2; simpa using this
  replace x_a := x_a.alloc (.cells #[.bool (ngB Y), .slice A4 n4 c4] 24)
  replace x_d := x_d.alloc (.cells #[.bool (ngB Y), .slice A4 n4 c4] 24)
  replace x_e := x_e.alloc (.cells #[.bool (ngB Y), .slice A4 n4 c4] 24)
  have x_f : Bx ((((w.alloc (.cells #[.bool (ngB X), .slice A n c] 24)).alloc (.cells #[.bool (ngB Y), .slice A3 n3 c3] 24)).alloc (.cells #[.bool (ngB X), .slice A2 n2 c2] 24)).alloc (.cells #[.bool (ngB Y), .slice A4 n4 c4] 24)) (w.heap.size + 1 + 1 + 1) (ngB Y) A4 n4 c4 := by have := Bx.new (((w.alloc (.cells #[.bool (ngB X), .slice A n c] 24)).alloc (.cells #[.bool (ngB Y), .slice A3 n3 c3] 24)).alloc (.cells #[.bool (ngB X), .slice A2 n2 c2] 24)) (ngB Y) A4 n4 c4; simpa using this
  have hb : Below w.heap.size w ((((w.alloc (.cells #[.bool (ngB X), .slice A n c] 24)).alloc (.cells #[.bool (ngB Y), .slice A3 n3 c3] 24)).alloc (.cells #[.bool (ngB X), .slice A2 n2 c2] 24)).alloc (.cells #[.bool (ngB Y), .slice A4 n4 c4] 24)) := (Below.alloc (Below.alloc (Below.alloc (Below.alloc (Below.refl w.heap.size w) (by simp) (.cells #[.bool (ngB X), .slice A n c] 24)) (by simp) (.cells #[.bool (ngB Y), .slice A3 n3 c3] 24)) (by simp; omega) (.cells #[.bool (ngB X), .slice A2 n2 c2] 24)) (by simp; omega) (.cells #[.bool (ngB Y), .slice A4 n4 c4] 24))
  generalize (((w.alloc (.cells #[.bool (ngB X), .slice A n c] 24)).alloc (.cells #[.bool (ngB Y), .slice A3 n3 c3] 24)).alloc (.cells #[.bool (ngB X), .slice A2 n2 c2] 24)).alloc (.cells #[.bool (ngB Y), .slice A4 n4 c4] 24) = v1 at *
  replace z := z.keep hb
  replace z2 := z2.keep hb
  replace z3 := z3.keep hb
  replace z4 := z4.keep hb
  obtain ⟨q_a0, f_a0, q_a1, f_a1⟩ := x_a.al
  obtain ⟨q_d0, f_d0, q_d1, f_d1⟩ := x_d.al
  obtain ⟨q_e0, f_e0, q_e1, f_e1⟩ := x_e.al
  obtain ⟨q_f0, f_f0, q_f1, f_f1⟩ := x_f.al
  go_wp2_with fail
  with_reducible refine (REqual_any z z2).mono ?_
  rintro e v2 ⟨rfl, hb1⟩
  replace x_a := x_a.keep hb1
  replace x_d := x_d.keep hb1
  replace x_e := x_e.keep hb1
  replace x_f := x_f.keep hb1
  replace z := z.keep hb1
  replace z2 := z2.keep hb1
  replace z3 := z3.keep hb1
  replace z4 := z4.keep hb1
  replace hb := bthen hb hb1
  clear hb1
  clear q_a0 f_a0 q_a1 f_a1; obtain ⟨q_a0, f_a0, q_a1, f_a1⟩ := x_a.al
  clear q_d0 f_d0 q_d1 f_d1; obtain ⟨q_d0, f_d0, q_d1, f_d1⟩ := x_d.al
  clear q_e0 f_e0 q_e1 f_e1; obtain ⟨q_e0, f_e0, q_e1, f_e1⟩ := x_e.al
  clear q_f0 f_f0 q_f1 f_f1; obtain ⟨q_f0, f_f0, q_f1, f_f1⟩ := x_f.al
  go_wp2_with fail
  with_reducible refine (REqual_any z3 z4).mono ?_
  rintro e v3 ⟨rfl, hb1⟩
  replace x_a := x_a.keep hb1
  replace x_d := x_d.keep hb1
  replace x_e := x_e.keep hb1
  replace x_f := x_f.keep hb1
  replace z := z.keep hb1
  replace z2 := z2.keep hb1
  replace z3 := z3.keep hb1
  replace z4 := z4.keep hb1
  replace hb := bthen hb hb1
  clear hb1
  clear q_a0 f_a0 q_a1 f_a1; obtain ⟨q_a0, f_a0, q_a1, f_a1⟩ := x_a.al
  clear q_d0 f_d0 q_d1 f_d1; obtain ⟨q_d0, f_d0, q_d1, f_d1⟩ := x_d.al
  clear q_e0 f_e0 q_e1 f_e1; obtain ⟨q_e0, f_e0, q_e1, f_e1⟩ := x_e.al
  clear q_f0 f_f0 q_f1 f_f1; obtain ⟨q_f0, f_f0, q_f1, f_f1⟩ := x_f.al
  go_wp2
  go_ret
  exact ⟨by simp, hb⟩

end Go.Proofs.YthlpdljkclngdaaGreat
