/-
  the laws of consts: shown.
-/
import Derived.Test.YtiikmjnnlckiiaaCln
import Derived.Test.YtiikmjnnlckiiaaPd
namespace Go.Proofs.Ytiikmjnnlckiiaa
open Go.RowKit
set_option linter.unusedVariables false

theorem tx7_3 {N : Nat} (h : 100 ≤ N) (h2 : N < 1000) : txL (N : Int) = [digC (N / 10 / 10), digC (N / 10 % 10), digC (N % 10)] := by
  unfold txL; rw [if_neg (by omega), show (N : Int).natAbs = N by omega, decL_big (by omega), decL_big (by omega), decL_small (by omega)]; rfl
theorem tx7_177 : txL 177 = [49, 55, 55] := tx7_3 (N := 177) (by omega) (by omega)
theorem tx7_178 : txL 178 = [49, 55, 56] := tx7_3 (N := 178) (by omega) (by omega)
theorem tx7_804 : txL 804 = [56, 48, 52] := tx7_3 (N := 804) (by omega) (by omega)
theorem tx7_805 : txL 805 = [56, 48, 53] := tx7_3 (N := 805) (by omega) (by omega)
theorem ln_8 : lnA 8 = 177 ∧ lnZ 8 = 178 := by
  unfold lnA lnZ
  rw [lnLo_N, lnHi_N]
  decide +kernel
theorem pi_8 : piA 8 = 804 ∧ piZ 8 = 805 := by
  unfold piA piZ
  rw [arLo_N, arHi_N, arLo_N, arHi_N]
  decide +kernel
theorem KLn2_8 (w : World) : Calls Try.prog 5 #[.int .i64 8] w (OuL w 177 178 8 200) := by
  have h := KLn2_yes 8 w (by omega)
  rw [ln_8.1, ln_8.2] at h
  exact h
theorem KPi_8 (w : World) : Calls Try.prog 6 #[.int .i64 8] w (OuL w 804 805 8 200) := by
  have h := KPi_yes 8 w (by omega)
  rw [pi_8.1, pi_8.2] at h
  exact h
set_option maxRecDepth 100000 in
set_option maxHeartbeats 8000000 in
theorem Cshown_any {w : World} : Calls Try.prog 4 #[] w fun e w' => e = .returned (.bool true) ∧ Below w.heap.size w w' := by
  have hb := Below.refl w.heap.size w
  go_enter Try.func4, Try.ntmps4
  go_wp2_with fail
  with_reducible refine (KLn2_8 _).mono ?_
  rintro e v1 ⟨A5, n5, c5, A6, n6, c6, rfl, z5, z6, hb1⟩
  replace hb := bthen hb hb1
  clear hb1
  go_wp2_with fail
  have hb1 := below_alloc v1 (.cells #[.bool (ngB 177), .slice A5 n5 c5, .bool (ngB 178), .slice A6 n6 c6, .int .i64 8] 27)
  have x_l := Lx.new v1 (ngB 177) A5 n5 c5 (ngB 178) A6 n6 c6 8
  have e_l : w.heap.size ≤ v1.heap.size := hb.size
  replace z5 := z5.keep hb1
  replace z6 := z6.keep hb1
  replace hb := bthen hb hb1
  clear hb1
  generalize v1.alloc (.cells #[.bool (ngB 177), .slice A5 n5 c5, .bool (ngB 178), .slice A6 n6 c6, .int .i64 8] 27) = v2 at *
  have q_l := x_l.al
  go_wp2_with fail
  with_reducible refine (KPi_8 _).mono ?_
  rintro e v3 ⟨A7, n7, c7, A8, n8, c8, rfl, z7, z8, hb1⟩
  replace x_l := x_l.keep hb1
  replace z5 := z5.keep hb1
  replace z6 := z6.keep hb1
  replace hb := bthen hb hb1
  clear hb1
  replace q_l := x_l.al
  have y_l := ((x_l.alloc (.cells #[.bool (ngB 804), .slice A7 n7 c7, .bool (ngB 805), .slice A8 n8 c8, .int .i64 8] 27))).al
  go_wp2_with fail
  clear y_l
  have hb1 := below_alloc v3 (.cells #[.bool (ngB 804), .slice A7 n7 c7, .bool (ngB 805), .slice A8 n8 c8, .int .i64 8] 27)
  have l_l_p := x_l.lt
  have x_p := Lx.new v3 (ngB 804) A7 n7 c7 (ngB 805) A8 n8 c8 8
  have e_p : w.heap.size ≤ v3.heap.size := hb.size
  clear q_l
  replace x_l := x_l.keep hb1
  replace z5 := z5.keep hb1
  replace z6 := z6.keep hb1
  replace z7 := z7.keep hb1
  replace z8 := z8.keep hb1
  replace hb := bthen hb hb1
  clear hb1
  generalize v3.alloc (.cells #[.bool (ngB 804), .slice A7 n7 c7, .bool (ngB 805), .slice A8 n8 c8, .int .i64 8] 27) = v4 at *
  have q_l := x_l.al
  have q_p := x_p.al
  skip
  with_reducible refine (ZText_any z5.zr (by omega)).mono ?_
  rintro e v5 ⟨rfl, hb1⟩
  replace x_l := x_l.keep hb1
  replace x_p := x_p.keep hb1
  replace z5 := z5.keep hb1
  replace z6 := z6.keep hb1
  replace z7 := z7.keep hb1
  replace z8 := z8.keep hb1
  replace hb := bthen hb hb1
  clear hb1
  replace q_l := x_l.al
  replace q_p := x_p.al
  rw [tx7_177]
  go_wp2_with fail
  with_reducible refine (ZText_any z6.zr (by omega)).mono ?_
  rintro e v6 ⟨rfl, hb1⟩
  replace x_l := x_l.keep hb1
  replace x_p := x_p.keep hb1
  replace z5 := z5.keep hb1
  replace z6 := z6.keep hb1
  replace z7 := z7.keep hb1
  replace z8 := z8.keep hb1
  replace hb := bthen hb hb1
  clear hb1
  replace q_l := x_l.al
  replace q_p := x_p.al
  rw [tx7_178]
  go_wp2_with fail
  with_reducible refine (ZText_any z7.zr (by omega)).mono ?_
  rintro e v7 ⟨rfl, hb1⟩
  replace x_l := x_l.keep hb1
  replace x_p := x_p.keep hb1
  replace z5 := z5.keep hb1
  replace z6 := z6.keep hb1
  replace z7 := z7.keep hb1
  replace z8 := z8.keep hb1
  replace hb := bthen hb hb1
  clear hb1
  replace q_l := x_l.al
  replace q_p := x_p.al
  rw [tx7_804]
  go_wp2_with fail
  with_reducible refine (ZText_any z8.zr (by omega)).mono ?_
  rintro e v8 ⟨rfl, hb1⟩
  replace x_l := x_l.keep hb1
  replace x_p := x_p.keep hb1
  replace z5 := z5.keep hb1
  replace z6 := z6.keep hb1
  replace z7 := z7.keep hb1
  replace z8 := z8.keep hb1
  replace hb := bthen hb hb1
  clear hb1
  replace q_l := x_l.al
  replace q_p := x_p.al
  rw [tx7_805]
  go_wp2
  go_ret
  exact ⟨rfl, hb⟩

end Go.Proofs.Ytiikmjnnlckiiaa
