/-
  the laws of bits: shown.
-/
import Derived.Test.YthbodamihiddhaaDoorBof
import Derived.Test.YthbodamihiddhaaDoorPd
namespace Go.Proofs.YthbodamihiddhaaDoor
open Go.RowKit
set_option linter.unusedVariables false

theorem tx_1 : txL 1 = [49] := by
  unfold txL; rw [if_neg (by omega), show (1 : Int).natAbs = 1 by omega, decL_small (by omega)]; rfl
theorem p1_fd : fdN 4607182418800017408 = 1023 ∧ frN 4607182418800017408 = 0 ∧ sgN 4607182418800017408 = false := ⟨rfl, rfl, rfl⟩
theorem p1_val : zi (sgN 4607182418800017408) (mnN 4607182418800017408) = 1 * 2 ^ 52 ∧ exN 4607182418800017408 = -52 := by
  have h1 : mnN 4607182418800017408 = 4503599627370496 := by unfold mnN; rw [p1_fd.1, p1_fd.2.1]; rfl
  have h2 : exN 4607182418800017408 = -52 := by unfold exN; rw [p1_fd.1]; rfl
  rw [h1, h2, p1_fd.2.2]
  exact ⟨rfl, rfl⟩
theorem p1_nf : od (zi (sgN 4607182418800017408) (mnN 4607182418800017408)) = 1 ∧ nE (zi (sgN 4607182418800017408) (mnN 4607182418800017408)) (exN 4607182418800017408) = 0 := by
  rw [p1_val.1, p1_val.2, od_shl, nE_shl, od_one, nE_one]
  exact ⟨rfl, by omega⟩
theorem bl_3 : bl 3 = 2 := by
  have h1 : bl 3 ≤ 2 := bl_le (by omega)
  have h2 : 1 < bl 3 := bl_ge (k := 1) (by omega)
  omega
theorem in_m1 : In (-1) := ⟨by omega, by omega⟩
theorem in_0 : In 0 := ⟨by omega, by omega⟩
theorem p3_t : (0 : Int) = -1 + bl (3 : Int).natAbs - 1 := by rw [show (3 : Int).natAbs = 3 from rfl, bl_3]; omega
theorem p1_t : (0 : Int) = 0 + bl (1 : Int).natAbs - 1 := by rw [show (1 : Int).natAbs = 1 from rfl, bl_one]; omega
theorem p3_e : (-52 : Int) ≤ nE 3 (-1) := by rw [show nE 3 (-1) = -1 from by decide]; omega
theorem p3_n : (od 3).natAbs * 2 ^ (nE 3 (-1) - -52).toNat = 6755399441055744 := by rw [show nE 3 (-1) = -1 from by decide, show od 3 = 3 from by decide]; rfl
theorem p3_v : (((if ngB 3 then 9223372036854775808 else 0) + (((-52 : Int) + 1074).toNat * 4503599627370496 + 6755399441055744) : Nat) : Int) = 4609434218613702656 := rfl

set_option maxRecDepth 100000 in
set_option maxHeartbeats 4000000 in
theorem Bshown_any {w : World} (hT : Tab w) : Calls Tryd.prog 8 #[] w fun e w' => e = .returned (.bool true) ∧ Below w.heap.size w w' := by
  have hb := Below.refl w.heap.size w
  go_enter Tryd.func8, Tryd.ntmps8
  go_wp2_with fail
  with_reducible refine (First_yes 0 (by omega)).mono ?_
  rintro e v1 ⟨rfl, hb1⟩
  replace hT := hT.keep hb1
  replace hb := bthen hb hb1
  clear hb1
  rw [show ((((0 : Int) + 1023).toNat * 4503599627370496 : Nat) : Int) = 4607182418800017408 from rfl]
  go_wp2_with fail
  with_reducible refine (Value_any 4607182418800017408 4607182418800017408 rfl (by omega) hT (by rw [p1_fd.1]; omega)).mono ?_
  rintro e v2 ⟨A1, n1, c1, rfl, z_d, hb1⟩
  replace hT := hT.keep hb1
  replace hb := bthen hb hb1
  clear hb1
  rw [p1_nf.1] at z_d
  rw [p1_nf.1, p1_nf.2]
  go_wp2_with fail
  have hb1 := below_alloc v2 (.cells #[.bool (ngB 1), .slice A1 n1 c1, .int .i64 0] 30)
  have x_d := Dx.new v2 (ngB 1) A1 n1 c1 0
  have e_d : w.heap.size ≤ v2.heap.size := hb.size
  replace hT := hT.keep hb1
  replace z_d := z_d.keep hb1
  replace hb := bthen hb hb1
  clear hb1
  generalize v2.alloc (.cells #[.bool (ngB 1), .slice A1 n1 c1, .int .i64 0] 30) = v3 at *
  have q_d0 := x_d.c0; have q_d1 := x_d.c1; have f_d0 := x_d.fr 0; have f_d1 := x_d.fr 1; have q_d2 := x_d.c2; have f_d2 := x_d.fr 2
  skip
  with_reducible refine (ZOf_any 3 (by omega) (by omega)).mono ?_
  rintro e v4 ⟨A2, n2, c2, rfl, za, hb1⟩
  replace x_d := x_d.keep hb1
  replace hT := hT.keep hb1
  replace z_d := z_d.keep hb1
  replace hb := bthen hb hb1
  clear hb1
  replace q_d0 := x_d.c0; replace q_d1 := x_d.c1; replace f_d0 := x_d.fr 0; replace f_d1 := x_d.fr 1; replace q_d2 := x_d.c2; replace f_d2 := x_d.fr 2
  go_wp2_with fail
  with_reducible refine (DOf_any za.zr hT 2 (by omega) (by omega)).mono ?_
  rintro e v5 ⟨A3, n3, c3, rfl, zb, hb1⟩
  replace x_d := x_d.keep hb1
  replace hT := hT.keep hb1
  replace z_d := z_d.keep hb1
  replace za := za.keep hb1
  replace hb := bthen hb hb1
  clear hb1
  replace q_d0 := x_d.c0; replace q_d1 := x_d.c1; replace f_d0 := x_d.fr 0; replace f_d1 := x_d.fr 1; replace q_d2 := x_d.c2; replace f_d2 := x_d.fr 2
  rw [show od (cM 3 (-1)) = 3 from by decide] at zb
  rw [show od (cM 3 (-1)) = 3 from by decide, show nE (cM 3 (-1)) (cE (-1)) = -1 from by decide]
  clear za
  go_wp2_with fail
  with_reducible refine (Of_at zb.zr hT (by omega) in_m1 (by omega) 0 (-52) p3_t (by omega) (by omega) p3_e 6755399441055744 p3_n).mono ?_
  rintro e v6 ⟨rfl, hb1⟩
  replace x_d := x_d.keep hb1
  replace hT := hT.keep hb1
  replace z_d := z_d.keep hb1
  replace zb := zb.keep hb1
  replace hb := bthen hb hb1
  clear hb1
  replace q_d0 := x_d.c0; replace q_d1 := x_d.c1; replace f_d0 := x_d.fr 0; replace f_d1 := x_d.fr 1; replace q_d2 := x_d.c2; replace f_d2 := x_d.fr 2
  rw [p3_v]
  clear zb
  go_wp2_with fail
  with_reducible refine (ZOf_any 1 (by omega) (by omega)).mono ?_
  rintro e v7 ⟨A4, n4, c4, rfl, za, hb1⟩
  replace x_d := x_d.keep hb1
  replace hT := hT.keep hb1
  replace z_d := z_d.keep hb1
  replace hb := bthen hb hb1
  clear hb1
  replace q_d0 := x_d.c0; replace q_d1 := x_d.c1; replace f_d0 := x_d.fr 0; replace f_d1 := x_d.fr 1; replace q_d2 := x_d.c2; replace f_d2 := x_d.fr 2
  go_wp2_with fail
  with_reducible refine (Near_in za.zr (by omega) in_0 (by omega) 0 p1_t (by omega) 4503599627370496 4607182418800017408 rfl rfl).mono ?_
  rintro e v8 ⟨rfl, hb1⟩
  replace x_d := x_d.keep hb1
  replace hT := hT.keep hb1
  replace z_d := z_d.keep hb1
  replace za := za.keep hb1
  replace hb := bthen hb hb1
  clear hb1
  replace q_d0 := x_d.c0; replace q_d1 := x_d.c1; replace f_d0 := x_d.fr 0; replace f_d1 := x_d.fr 1; replace q_d2 := x_d.c2; replace f_d2 := x_d.fr 2
  clear za
  go_wp2_with fail
  with_reducible refine (ZText_any z_d.zr (by omega)).mono ?_
  rintro e v9 ⟨rfl, hb1⟩
  replace x_d := x_d.keep hb1
  replace hT := hT.keep hb1
  replace z_d := z_d.keep hb1
  replace hb := bthen hb hb1
  clear hb1
  replace q_d0 := x_d.c0; replace q_d1 := x_d.c1; replace f_d0 := x_d.fr 0; replace f_d1 := x_d.fr 1; replace q_d2 := x_d.c2; replace f_d2 := x_d.fr 2
  rw [tx_1]
  go_wp2
  go_ret
  exact ⟨rfl, hb⟩

end Go.Proofs.YthbodamihiddhaaDoor
