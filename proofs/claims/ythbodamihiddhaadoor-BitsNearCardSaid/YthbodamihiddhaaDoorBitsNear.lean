/-
  The law BitsNear, as a call.
-/
import Derived.Test.YthbodamihiddhaaDoorBshown
import Derived.Test.YthbodamihiddhaaDoorBcut
namespace Go.Proofs.YthbodamihiddhaaDoor
open Go.RowKit
set_option linter.unusedVariables false

section
variable {w : World} {g n c : Nat} {b : Bool} {A : Option Addr} {e : Int} {l : List Int} {A2 : Option Addr} {n2 c2 : Nat}
theorem Dx.put2 (x : Dx w g b A n c e) (e' : Int) : Dx (w.setCell ⟨g, 2, none⟩ (.int .i64 e')) g b A n c e' := by
  unfold Dx at x ⊢
  simp [World.setCell, Array.getElem?_modify, x]
theorem Rd.put2 (hr : Rd w w.heap.size A2 n2 c2 l) (x : Dx w g b A n c e) (e' : Int) : Rd (w.setCell ⟨g, 2, none⟩ (.int .i64 e')) (w.setCell ⟨g, 2, none⟩ (.int .i64 e')).heap.size A2 n2 c2 l := by
  have h2 := x.c2
  refine ⟨hr.1, hr.2.1, hr.2.2.1, hr.2.2.2.1, fun hn => ?_⟩
  obtain ⟨d, off, e, hd, hc⟩ := hr.at_ hn
  refine ⟨d, off, e, by simp [World.setCell]; exact hd, fun k hk => ?_⟩
  have hck := hc k hk
  have e2 : (⟨d, off + k, none⟩ : Addr) ≠ ⟨g, 2, none⟩ := fun e => by rw [e, h2] at hck; cases hck
  rw [World.cell?_setCell_other _ _ _ _ e2.symm]
  exact hck
theorem Tab.put2 (h : Tab w) (x : Dx w g b A n c e) (e' : Int) : Tab (w.setCell ⟨g, 2, none⟩ (.int .i64 e')) := ⟨fun j hj => by
  have h1 := h.at_ j hj
  have h2 := x.c2
  have e2 : (⟨0, j, none⟩ : Addr) ≠ ⟨g, 2, none⟩ := fun e => by rw [e, h2] at h1; cases h1
  rw [World.cell?_setCell_other _ _ _ _ e2.symm]
  exact h1⟩
end
/-- What is from 2^-1022 on and below 2^1024, told by the bits. -/
theorem near_rng {X e : Int} (he : -1200 < e ∧ e < 1200) :
    (0 < X → (sgnI (vd 1 (-1022) - vd X e) ≤ 0 ↔ -1022 ≤ e + bl X.natAbs - 1) ∧ (sgnI (vd X e - vd 1 1024) < 0 ↔ e + bl X.natAbs - 1 ≤ 1023)) ∧
    (X ≤ 0 → 0 < sgnI (vd 1 (-1022) - vd X e)) := by
  have hin : In e := ⟨by omega, by omega⟩
  refine ⟨fun hX => ?_, fun hX => ?_⟩
  · have hp := bl_pos (N := X.natAbs) (by omega)
    obtain ⟨t, ht⟩ : ∃ t, e + (bl X.natAbs : Int) - 1 = t := ⟨_, rfl⟩
    have h1 := lg_vd hX hin (by omega)
    rw [show e + (bl X.natAbs : Int) = t + 1 by omega, show t + 1 - 1 = t by omega] at h1
    rw [ht]
    constructor
    · constructor
      · intro h
        rcases Int.lt_or_le t (-1022) with hc | hc
        · have := vd_one_le (e := t + 1) (f := -1022) (by omega) (by omega)
          have := sgnI_gt0 (X := vd 1 (-1022) - vd X e)
          omega
        · exact hc
      · intro h
        have := vd_one_le (e := -1022) (f := t) (by omega) (by omega)
        have := sgnI_gt0 (X := vd 1 (-1022) - vd X e)
        omega
    · constructor
      · intro h
        rcases Int.lt_or_le 1023 t with hc | hc
        · have := vd_one_le (e := 1024) (f := t) (by omega) (by omega)
          have := sgnI_lt0 (X := vd X e - vd 1 1024)
          omega
        · exact hc
      · intro h
        have := vd_one_le (e := t + 1) (f := 1024) (by omega) (by omega)
        have := sgnI_lt0 (X := vd X e - vd 1 1024)
        omega
  · have h1 := vd_npos (e := e) hX
    have h2 := vd_pos (X := 1) (e := -1022) (by omega)
    exact sgnI_gt0.2 (by omega)
/-- The pattern that is near: its number is not above, the next one's is. -/
theorem near_core {X e t : Int} (hX : 0 < X) (he : In e) (ht : t = e + bl X.natAbs - 1) (hr : -1022 ≤ t ∧ t ≤ 1023) :
    ∃ M J : Nat, flI X (e - (t - 52)) = M ∧ (t - 52 + 1074).toNat * 4503599627370496 + M = J ∧ J < 9218868437227405312 ∧ fdN J ≠ 2047 ∧ nmN J = true ∧ (pvN J : Int) ≤ vd X e ∧ (J + 1 < 9218868437227405312 → vd X e < (pvN (J + 1) : Int)) := by
  obtain ⟨k1, k2, k3, k4⟩ := fl_near hX he (t := t - 52) (by omega) (by omega)
  obtain ⟨M, hM⟩ : ∃ M : Nat, flI X (e - (t - 52)) = M := ⟨(flI X (e - (t - 52))).toNat, by omega⟩
  rw [hM] at k1 k2 k3 k4
  obtain ⟨i1, i2, i3, i4, i5, i6⟩ := join_is (m := M) (e := t - 52) (by omega) (by omega) (by omega) rfl
  refine ⟨M, _, hM, rfl, i1, i3, i6, ?_, fun hJ => ?_⟩
  · rw [← vd_pv, i4, i5]
    exact k3
  · rw [pv_succ hJ, Int.natCast_add, ← vd_pv, i4, i5, ← pow_cast]
    unfold vd
    rw [Int.add_mul, Int.one_mul] at k4
    exact k4
theorem near_val {a : Nat} (h : a < 9218868437227405312) {Q E : Int} (hQ : od (zi (sgN a) (mnN a)) = Q) (hE : nE (zi (sgN a) (mnN a)) (exN a) = E) : In E ∧ vd Q E = (pvN a : Int) ∧ fdN a ≠ 2047 := by
  have f := fd_small h
  have hx := exN_num (b := a) (by omega)
  have hlt := mnN_lt a
  rw [f.2.2] at hQ hE
  have hz : zi false (mnN a) = (mnN a : Int) := rfl
  rw [hz] at hQ hE
  subst hQ hE
  refine ⟨nE_in (k := 53) (by unfold Bt; omega) (by omega) (by omega) (by omega), ?_, by omega⟩
  rw [vd_nf (by omega), vd_pv]
theorem of_one {e : Int} (h : In e) : od (cM 1 e) = 1 ∧ nE (cM 1 e) (cE e) = e := by rw [(c_yes (X := 1) h).1, (c_yes (X := 1) h).2, nE_one]; exact ⟨od_one, rfl⟩

set_option maxRecDepth 100000 in
set_option maxHeartbeats 64000000 in
theorem BitsNear_any {b : Bool} {A : Option Addr} {n c : Nat} {l : List Int} {e : Int} {w : World} (hT : Tab w) (h : Rd w w.heap.size A n c l) :
    Calls Tryd.prog 6 #[.agg #[.bool b, .slice A n c, .int .i64 e]] w fun e w' => e = .returned (.bool true) ∧ Below w.heap.size w w' := by
  have hte := tmod_in e 1200 (by omega)
  go_enter Tryd.func6, Tryd.ntmps6
  go_wp2_with fail
  have x_d : Dx (w.alloc (.cells #[.bool b, .slice A n c, .int .i64 e] 30)) (w.heap.size) b A n c e := by have := Dx.new w b A n c e; simpa using this
  have hb : Below w.heap.size w (w.alloc (.cells #[.bool b, .slice A n c, .int .i64 e] 30)) := (Below.alloc (Below.refl w.heap.size w) (by simp) (.cells #[.bool b, .slice A n c, .int .i64 e] 30))
  generalize w.alloc (.cells #[.bool b, .slice A n c, .int .i64 e] 30) = v1 at *
  replace hT := hT.keep hb
  replace h := h.go hb
  have q_d0 := x_d.c0; have q_d1 := x_d.c1; have f_d0 := x_d.fr 0; have f_d1 := x_d.fr 1; have q_d2 := x_d.c2; have f_d2 := x_d.fr 2
  go_wp2_with fail
  with_reducible refine (Bshown_any hT).mono ?_
  rintro e v2 ⟨rfl, hb1⟩
  replace x_d := x_d.keep hb1
  replace hT := hT.keep hb1
  replace h := h.go hb1
  replace hb := bthen hb hb1
  clear hb1
  replace q_d0 := x_d.c0; replace q_d1 := x_d.c1; replace f_d0 := x_d.fr 0; replace f_d1 := x_d.fr 1; replace q_d2 := x_d.c2; replace f_d2 := x_d.fr 2
  go_wp2_with fail
  with_reducible refine (Dcut_at h 4 4 rfl (by omega)).mono ?_
  rintro e v3 ⟨A1, n1, c1, rfl, p1, k1, hb1⟩
  replace x_d := x_d.keep hb1
  replace hT := hT.keep hb1
  replace h := h.go hb1
  replace hb := bthen hb hb1
  clear hb1
  replace q_d0 := x_d.c0; replace q_d1 := x_d.c1; replace f_d0 := x_d.fr 0; replace f_d1 := x_d.fr 1; replace q_d2 := x_d.c2; replace f_d2 := x_d.fr 2
  clear h
  have x3 := x_d.put b A1 n1 c1 e
  have x4 := x3.put2 (e.tmod 1200)
  have y0 := x3.c0; have y1 := x3.c1; have y2 := x3.c2; have y3 := x3.fr 2; have y4 := x4.c0; have y5 := x4.c1; have y6 := x4.c2
  have p3 := (p1.sputD (b' := b) (A' := A1) (n' := n1) (c' := c1) (e' := e) x_d).put2 x3 (e.tmod 1200)
  have hT3 := (hT.putD (b' := b) (A' := A1) (n' := n1) (c' := c1) (e' := e) x_d).put2 x3 (e.tmod 1200)
  have hb3 := (put_belowD (g := w.heap.size) hb (by omega) (.bool b) (.slice A1 n1 c1) (.int .i64 e)).setCell (p := ⟨w.heap.size, 2, none⟩) (Nat.le_refl _) (.int .i64 (e.tmod 1200))
  go_wp2_with fail
  clear y0 y1 y2 y3 y4 y5 y6 x3 x_d hT hb p1 q_d0 q_d1 q_d2 f_d0 f_d1 f_d2
  generalize (((v3.setCell ⟨w.heap.size, 0, none⟩ (.bool b)).setCell ⟨w.heap.size, 1, none⟩ (.slice A1 n1 c1)).setCell ⟨w.heap.size, 2, none⟩ (.int .i64 e)).setCell ⟨w.heap.size, 2, none⟩ (.int .i64 (e.tmod 1200)) = v4 at *
  have x_d := x4; have hT := hT3; have hb := hb3; clear x4 hT3 hb3
  obtain ⟨X, zd⟩ : ∃ X, Zr v4 b A1 n1 c1 X 4 := ⟨_, _, p3, rfl, k1⟩
  clear p3 k1
  generalize e.tmod 1200 = E0 at *
  have q_d0 := x_d.c0; have q_d1 := x_d.c1; have f_d0 := x_d.fr 0; have f_d1 := x_d.fr 1; have q_d2 := x_d.c2; have f_d2 := x_d.fr 2
  have hin : In E0 := ⟨by omega, by omega⟩
  have hlo : In (-1022) := ⟨by omega, by omega⟩
  have hhi : In 1024 := ⟨by omega, by omega⟩
  have hol := of_one hlo
  have hoh := of_one hhi
  obtain ⟨hr1, hr2⟩ := near_rng (X := X) hte
  obtain ⟨C1, hC1⟩ : ∃ C, sgnI (alP 1 (-1022) E0 - alQ X (-1022) E0) = C := ⟨_, rfl⟩
  obtain ⟨C2, hC2⟩ : ∃ C, sgnI (alP X E0 1024 - alQ 1 E0 1024) = C := ⟨_, rfl⟩
  rw [← cmp_vd hlo hin, hC1] at hr1 hr2
  rw [← cmp_vd hin hhi, hC2] at hr1
  obtain ⟨t, ht⟩ : ∃ t, t = E0 + (bl X.natAbs : Int) - 1 := ⟨_, rfl⟩
  rw [← ht] at hr1
  have hcase : (0 < X ∧ -1022 ≤ t ∧ t ≤ 1023 ∧ C1 ≤ 0 ∧ C2 < 0) ∨ (¬ C1 ≤ 0 ∧ (X ≤ 0 ∨ t < -1022 ∨ 1023 < t)) ∨ ((C1 ≤ 0 ∧ ¬ C2 < 0) ∧ (X ≤ 0 ∨ t < -1022 ∨ 1023 < t)) := by
    rcases Int.lt_or_le 0 X with hX | hX
    · obtain ⟨a1, a2⟩ := hr1 hX
      by_cases h1 : -1022 ≤ t
      · by_cases h2 : t ≤ 1023
        · exact .inl ⟨hX, h1, h2, a1.2 h1, a2.2 h2⟩
        · exact .inr (.inr ⟨⟨a1.2 h1, fun hc => h2 (a2.1 hc)⟩, .inr (.inr (by omega))⟩)
      · exact .inr (.inl ⟨fun hc => h1 (a1.1 hc), .inr (.inl (by omega))⟩)
    · have := hr2 hX
      exact .inr (.inl ⟨by omega, .inl hX⟩)
  have hs2 := sgnI_is (alP X E0 1024 - alQ 1 E0 1024)
  rw [hC2] at hs2
  have HS2 := Lib.hid hs2; clear hs2
  have HOL := Lib.hid hol; have HOH := Lib.hid hoh; have HC := Lib.hid (And.intro hC1 hC2); have HIN := Lib.hid hin; have HT := Lib.hid ht
  clear hol hoh hC1 hC2 hr1 hr2 hlo hhi hin
  rcases hcase with ⟨hX, t1, t2, d1, d2⟩ | ⟨d1, hout⟩ | ⟨⟨d1, d2⟩, hout⟩
  · obtain ⟨M, J, n1_, n2_, n3, n4, n5, n6, n7⟩ := near_core hX HIN.out HT.out ⟨t1, t2⟩
    obtain ⟨Q, hQ⟩ : ∃ Q, od (zi (sgN J) (mnN J)) = Q := ⟨_, rfl⟩
    obtain ⟨E, hE⟩ : ∃ E, nE (zi (sgN J) (mnN J)) (exN J) = E := ⟨_, rfl⟩
    obtain ⟨i1, i2, i3⟩ := near_val n3 hQ hE
    have hc3 : ¬ 0 < sgnI (alP Q E E0 - alQ X E E0) := by
      rw [cmp_vd i1 HIN.out, i2]
      intro hc
      have := sgnI_gt0.1 hc
      omega
    obtain ⟨C3, hC3⟩ : ∃ C, sgnI (alP Q E E0 - alQ X E E0) = C := ⟨_, rfl⟩
    rw [hC3] at hc3
    have hd3 : C3 ≤ 0 := by omega
    obtain ⟨z1, hz1⟩ : ∃ z1 : Nat, J + 1 = z1 := ⟨_, rfl⟩
    have hwz : IntKind.u64.wrap ((J : Int) + 1) = (z1 : Int) := by rw [wrap_u64]; omega
    have HM := Lib.hid (And.intro n1_ n2_); have HJ := Lib.hid (And.intro (show J < 18446744073709551616 by omega) (And.intro n4 n5)); have HQ := Lib.hid (And.intro hQ hE); have HC3 := Lib.hid hC3; have HX := Lib.hid hX; have HZ := Lib.hid (show z1 < 18446744073709551616 by omega)
    clear n1_ n2_ n4 n5 hQ hE hC3 hc3 i1 i2 i3 hX n6
    by_cases hz : z1 < 9218868437227405312
    · obtain ⟨U, hU⟩ : ∃ U, od (zi (sgN z1) (mnN z1)) = U := ⟨_, rfl⟩
      obtain ⟨G, hG⟩ : ∃ G, nE (zi (sgN z1) (mnN z1)) (exN z1) = G := ⟨_, rfl⟩
      obtain ⟨i1, i2, i3⟩ := near_val hz hU hG
      have hc4 : sgnI (alP X E0 G - alQ U E0 G) < 0 := by
        have h7 := n7 (by omega)
        rw [hz1] at h7
        rw [cmp_vd HIN.out i1, i2]
        exact sgnI_lt0.2 (by omega)
      obtain ⟨C4, hC4⟩ : ∃ C, sgnI (alP X E0 G - alQ U E0 G) = C := ⟨_, rfl⟩
      rw [hC4] at hc4
      have HU := Lib.hid (And.intro hU hG); have HF := Lib.hid i3; have HC4 := Lib.hid hC4
      clear hU hG i1 i2 i3 hC4 n7 n3 hz hz1
      skip
      with_reducible refine (ZOf_any 1 (by omega) (by omega)).mono ?_
      rintro e v5 ⟨A_lo, n_lo, c_lo, rfl, za, hb1⟩
      replace x_d := x_d.keep hb1
      replace hT := hT.keep hb1
      replace zd := zd.keep hb1
      replace hb := bthen hb hb1
      clear hb1
      replace q_d0 := x_d.c0; replace q_d1 := x_d.c1; replace f_d0 := x_d.fr 0; replace f_d1 := x_d.fr 1; replace q_d2 := x_d.c2; replace f_d2 := x_d.fr 2
      go_wp2_with fail
      with_reducible refine (DOf_any za.zr hT 2 (by omega) (by omega)).mono ?_
      rintro e v6 ⟨Alo, nlo, clo, rfl, z_lo, hb1⟩
      replace x_d := x_d.keep hb1
      replace hT := hT.keep hb1
      replace zd := zd.keep hb1
      replace za := za.keep hb1
      replace hb := bthen hb hb1
      clear hb1
      replace q_d0 := x_d.c0; replace q_d1 := x_d.c1; replace f_d0 := x_d.fr 0; replace f_d1 := x_d.fr 1; replace q_d2 := x_d.c2; replace f_d2 := x_d.fr 2
      rw [HOL.out.1] at z_lo
      rw [HOL.out.1, HOL.out.2]
      clear za
      have y_d := (x_d.alloc (.cells #[.bool (ngB 1), .slice Alo nlo clo, .int .i64 (-1022)] 30)); have yq_d0 := y_d.c0; have yq_d1 := y_d.c1; have yq_d2 := y_d.c2
      go_wp2_with fail
      clear y_d yq_d0 yq_d1 yq_d2
      have hb1 := below_alloc v6 (.cells #[.bool (ngB 1), .slice Alo nlo clo, .int .i64 (-1022)] 30)
      have l_d_lo := x_d.lt
      have x_lo := Dx.new v6 (ngB 1) Alo nlo clo (-1022)
      have e_lo : w.heap.size ≤ v6.heap.size := hb.size
      replace x_d := x_d.keep hb1
      replace hT := hT.keep hb1
      replace zd := zd.keep hb1
      replace z_lo := z_lo.keep hb1
      replace hb := bthen hb hb1
      clear hb1
      replace q_d0 := x_d.c0; replace q_d1 := x_d.c1; replace f_d0 := x_d.fr 0; replace f_d1 := x_d.fr 1; replace q_d2 := x_d.c2; replace f_d2 := x_d.fr 2
      clear q_d0 q_d1 f_d0 f_d1 q_d2 f_d2
      generalize v6.alloc (.cells #[.bool (ngB 1), .slice Alo nlo clo, .int .i64 (-1022)] 30) = v7 at *
      have q_d0 := x_d.c0; have q_d1 := x_d.c1; have f_d0 := x_d.fr 0; have f_d1 := x_d.fr 1; have q_d2 := x_d.c2; have f_d2 := x_d.fr 2
      have q_lo0 := x_lo.c0; have q_lo1 := x_lo.c1; have f_lo0 := x_lo.fr 0; have f_lo1 := x_lo.fr 1; have q_lo2 := x_lo.c2; have f_lo2 := x_lo.fr 2
      skip
      with_reducible refine (ZOf_any 1 (by omega) (by omega)).mono ?_
      rintro e v8 ⟨A_hi, n_hi, c_hi, rfl, za, hb1⟩
      replace x_d := x_d.keep hb1
      replace x_lo := x_lo.keep hb1
      replace hT := hT.keep hb1
      replace zd := zd.keep hb1
      replace z_lo := z_lo.keep hb1
      replace hb := bthen hb hb1
      clear hb1
      replace q_d0 := x_d.c0; replace q_d1 := x_d.c1; replace f_d0 := x_d.fr 0; replace f_d1 := x_d.fr 1; replace q_d2 := x_d.c2; replace f_d2 := x_d.fr 2
      replace q_lo0 := x_lo.c0; replace q_lo1 := x_lo.c1; replace f_lo0 := x_lo.fr 0; replace f_lo1 := x_lo.fr 1; replace q_lo2 := x_lo.c2; replace f_lo2 := x_lo.fr 2
      go_wp2_with fail
      with_reducible refine (DOf_any za.zr hT 2 (by omega) (by omega)).mono ?_
      rintro e v9 ⟨Ahi, nhi, chi, rfl, z_hi, hb1⟩
      replace x_d := x_d.keep hb1
      replace x_lo := x_lo.keep hb1
      replace hT := hT.keep hb1
      replace zd := zd.keep hb1
      replace z_lo := z_lo.keep hb1
      replace za := za.keep hb1
      replace hb := bthen hb hb1
      clear hb1
      replace q_d0 := x_d.c0; replace q_d1 := x_d.c1; replace f_d0 := x_d.fr 0; replace f_d1 := x_d.fr 1; replace q_d2 := x_d.c2; replace f_d2 := x_d.fr 2
      replace q_lo0 := x_lo.c0; replace q_lo1 := x_lo.c1; replace f_lo0 := x_lo.fr 0; replace f_lo1 := x_lo.fr 1; replace q_lo2 := x_lo.c2; replace f_lo2 := x_lo.fr 2
      rw [HOH.out.1] at z_hi
      rw [HOH.out.1, HOH.out.2]
      clear za
      have y_d := (x_d.alloc (.cells #[.bool (ngB 1), .slice Ahi nhi chi, .int .i64 1024] 30)); have yq_d0 := y_d.c0; have yq_d1 := y_d.c1; have yq_d2 := y_d.c2
      have y_lo := (x_lo.alloc (.cells #[.bool (ngB 1), .slice Ahi nhi chi, .int .i64 1024] 30)); have yq_lo0 := y_lo.c0; have yq_lo1 := y_lo.c1; have yq_lo2 := y_lo.c2
      go_wp2_with fail
      clear y_d yq_d0 yq_d1 yq_d2 y_lo yq_lo0 yq_lo1 yq_lo2
      have hb1 := below_alloc v9 (.cells #[.bool (ngB 1), .slice Ahi nhi chi, .int .i64 1024] 30)
      have l_d_hi := x_d.lt
      have l_lo_hi := x_lo.lt
      have x_hi := Dx.new v9 (ngB 1) Ahi nhi chi 1024
      have e_hi : w.heap.size ≤ v9.heap.size := hb.size
      replace x_d := x_d.keep hb1
      replace x_lo := x_lo.keep hb1
      replace hT := hT.keep hb1
      replace zd := zd.keep hb1
      replace z_lo := z_lo.keep hb1
      replace z_hi := z_hi.keep hb1
      replace hb := bthen hb hb1
      clear hb1
      replace q_d0 := x_d.c0; replace q_d1 := x_d.c1; replace f_d0 := x_d.fr 0; replace f_d1 := x_d.fr 1; replace q_d2 := x_d.c2; replace f_d2 := x_d.fr 2
      replace q_lo0 := x_lo.c0; replace q_lo1 := x_lo.c1; replace f_lo0 := x_lo.fr 0; replace f_lo1 := x_lo.fr 1; replace q_lo2 := x_lo.c2; replace f_lo2 := x_lo.fr 2
      clear q_d0 q_d1 f_d0 f_d1 q_d2 f_d2 q_lo0 q_lo1 f_lo0 f_lo1 q_lo2 f_lo2
      generalize v9.alloc (.cells #[.bool (ngB 1), .slice Ahi nhi chi, .int .i64 1024] 30) = v10 at *
      have q_d0 := x_d.c0; have q_d1 := x_d.c1; have f_d0 := x_d.fr 0; have f_d1 := x_d.fr 1; have q_d2 := x_d.c2; have f_d2 := x_d.fr 2
      have q_lo0 := x_lo.c0; have q_lo1 := x_lo.c1; have f_lo0 := x_lo.fr 0; have f_lo1 := x_lo.fr 1; have q_lo2 := x_lo.c2; have f_lo2 := x_lo.fr 2
      have q_hi0 := x_hi.c0; have q_hi1 := x_hi.c1; have f_hi0 := x_hi.fr 0; have f_hi1 := x_hi.fr 1; have q_hi2 := x_hi.c2; have f_hi2 := x_hi.fr 2
      skip
      with_reducible refine (Near_in zd (by omega) HIN.out HX.out t HT.out ⟨t1, t2⟩ M J HM.out.1 HM.out.2).mono ?_
      rintro e v11 ⟨rfl, hb1⟩
      replace x_d := x_d.keep hb1
      replace x_lo := x_lo.keep hb1
      replace x_hi := x_hi.keep hb1
      replace hT := hT.keep hb1
      replace zd := zd.keep hb1
      replace z_lo := z_lo.keep hb1
      replace z_hi := z_hi.keep hb1
      replace hb := bthen hb hb1
      clear hb1
      replace q_d0 := x_d.c0; replace q_d1 := x_d.c1; replace f_d0 := x_d.fr 0; replace f_d1 := x_d.fr 1; replace q_d2 := x_d.c2; replace f_d2 := x_d.fr 2
      replace q_lo0 := x_lo.c0; replace q_lo1 := x_lo.c1; replace f_lo0 := x_lo.fr 0; replace f_lo1 := x_lo.fr 1; replace q_lo2 := x_lo.c2; replace f_lo2 := x_lo.fr 2
      replace q_hi0 := x_hi.c0; replace q_hi1 := x_hi.c1; replace f_hi0 := x_hi.fr 0; replace f_hi1 := x_hi.fr 1; replace q_hi2 := x_hi.c2; replace f_hi2 := x_hi.fr 2
      go_wp2_with fail
      with_reducible refine (DCmp_any z_lo.zr zd (by omega) (by omega)).mono ?_
      rintro e v12 ⟨rfl, hb1⟩
      replace x_d := x_d.keep hb1
      replace x_lo := x_lo.keep hb1
      replace x_hi := x_hi.keep hb1
      replace hT := hT.keep hb1
      replace zd := zd.keep hb1
      replace z_lo := z_lo.keep hb1
      replace z_hi := z_hi.keep hb1
      replace hb := bthen hb hb1
      clear hb1
      replace q_d0 := x_d.c0; replace q_d1 := x_d.c1; replace f_d0 := x_d.fr 0; replace f_d1 := x_d.fr 1; replace q_d2 := x_d.c2; replace f_d2 := x_d.fr 2
      replace q_lo0 := x_lo.c0; replace q_lo1 := x_lo.c1; replace f_lo0 := x_lo.fr 0; replace f_lo1 := x_lo.fr 1; replace q_lo2 := x_lo.c2; replace f_lo2 := x_lo.fr 2
      replace q_hi0 := x_hi.c0; replace q_hi1 := x_hi.c1; replace f_hi0 := x_hi.fr 0; replace f_hi1 := x_hi.fr 1; replace q_hi2 := x_hi.c2; replace f_hi2 := x_hi.fr 2
      rw [HC.out.1]
      go_wp2_with fail
      with_reducible refine (DCmp_any zd z_hi.zr (by omega) (by omega)).mono ?_
      rintro e v13 ⟨rfl, hb1⟩
      replace x_d := x_d.keep hb1
      replace x_lo := x_lo.keep hb1
      replace x_hi := x_hi.keep hb1
      replace hT := hT.keep hb1
      replace zd := zd.keep hb1
      replace z_lo := z_lo.keep hb1
      replace z_hi := z_hi.keep hb1
      replace hb := bthen hb hb1
      clear hb1
      replace q_d0 := x_d.c0; replace q_d1 := x_d.c1; replace f_d0 := x_d.fr 0; replace f_d1 := x_d.fr 1; replace q_d2 := x_d.c2; replace f_d2 := x_d.fr 2
      replace q_lo0 := x_lo.c0; replace q_lo1 := x_lo.c1; replace f_lo0 := x_lo.fr 0; replace f_lo1 := x_lo.fr 1; replace q_lo2 := x_lo.c2; replace f_lo2 := x_lo.fr 2
      replace q_hi0 := x_hi.c0; replace q_hi1 := x_hi.c1; replace f_hi0 := x_hi.fr 0; replace f_hi1 := x_hi.fr 1; replace q_hi2 := x_hi.c2; replace f_hi2 := x_hi.fr 2
      rw [HC.out.2]
      go_wp2_with fail
      with_reducible refine (Value_any _ J rfl HJ.out.1 hT HJ.out.2.1).mono ?_
      rintro e v14 ⟨Ax, nx, cx, rfl, z_x, hb1⟩
      replace x_d := x_d.keep hb1
      replace x_lo := x_lo.keep hb1
      replace x_hi := x_hi.keep hb1
      replace hT := hT.keep hb1
      replace zd := zd.keep hb1
      replace z_lo := z_lo.keep hb1
      replace z_hi := z_hi.keep hb1
      replace hb := bthen hb hb1
      clear hb1
      replace q_d0 := x_d.c0; replace q_d1 := x_d.c1; replace f_d0 := x_d.fr 0; replace f_d1 := x_d.fr 1; replace q_d2 := x_d.c2; replace f_d2 := x_d.fr 2
      replace q_lo0 := x_lo.c0; replace q_lo1 := x_lo.c1; replace f_lo0 := x_lo.fr 0; replace f_lo1 := x_lo.fr 1; replace q_lo2 := x_lo.c2; replace f_lo2 := x_lo.fr 2
      replace q_hi0 := x_hi.c0; replace q_hi1 := x_hi.c1; replace f_hi0 := x_hi.fr 0; replace f_hi1 := x_hi.fr 1; replace q_hi2 := x_hi.c2; replace f_hi2 := x_hi.fr 2
      rw [HQ.out.1] at z_x
      rw [HQ.out.1, HQ.out.2]
      have y_d := (x_d.alloc (.cells #[.bool (ngB Q), .slice Ax nx cx, .int .i64 E] 30)); have yq_d0 := y_d.c0; have yq_d1 := y_d.c1; have yq_d2 := y_d.c2
      have y_lo := (x_lo.alloc (.cells #[.bool (ngB Q), .slice Ax nx cx, .int .i64 E] 30)); have yq_lo0 := y_lo.c0; have yq_lo1 := y_lo.c1; have yq_lo2 := y_lo.c2
      have y_hi := (x_hi.alloc (.cells #[.bool (ngB Q), .slice Ax nx cx, .int .i64 E] 30)); have yq_hi0 := y_hi.c0; have yq_hi1 := y_hi.c1; have yq_hi2 := y_hi.c2
      go_wp2_with fail
      clear y_d yq_d0 yq_d1 yq_d2 y_lo yq_lo0 yq_lo1 yq_lo2 y_hi yq_hi0 yq_hi1 yq_hi2
      have hb1 := below_alloc v14 (.cells #[.bool (ngB Q), .slice Ax nx cx, .int .i64 E] 30)
      have l_d_x := x_d.lt
      have l_lo_x := x_lo.lt
      have l_hi_x := x_hi.lt
      have x_x := Dx.new v14 (ngB Q) Ax nx cx E
      have e_x : w.heap.size ≤ v14.heap.size := hb.size
      replace x_d := x_d.keep hb1
      replace x_lo := x_lo.keep hb1
      replace x_hi := x_hi.keep hb1
      replace hT := hT.keep hb1
      replace zd := zd.keep hb1
      replace z_lo := z_lo.keep hb1
      replace z_hi := z_hi.keep hb1
      replace z_x := z_x.keep hb1
      replace hb := bthen hb hb1
      clear hb1
      replace q_d0 := x_d.c0; replace q_d1 := x_d.c1; replace f_d0 := x_d.fr 0; replace f_d1 := x_d.fr 1; replace q_d2 := x_d.c2; replace f_d2 := x_d.fr 2
      replace q_lo0 := x_lo.c0; replace q_lo1 := x_lo.c1; replace f_lo0 := x_lo.fr 0; replace f_lo1 := x_lo.fr 1; replace q_lo2 := x_lo.c2; replace f_lo2 := x_lo.fr 2
      replace q_hi0 := x_hi.c0; replace q_hi1 := x_hi.c1; replace f_hi0 := x_hi.fr 0; replace f_hi1 := x_hi.fr 1; replace q_hi2 := x_hi.c2; replace f_hi2 := x_hi.fr 2
      clear q_d0 q_d1 f_d0 f_d1 q_d2 f_d2 q_lo0 q_lo1 f_lo0 f_lo1 q_lo2 f_lo2 q_hi0 q_hi1 f_hi0 f_hi1 q_hi2 f_hi2
      generalize v14.alloc (.cells #[.bool (ngB Q), .slice Ax nx cx, .int .i64 E] 30) = v15 at *
      have q_d0 := x_d.c0; have q_d1 := x_d.c1; have f_d0 := x_d.fr 0; have f_d1 := x_d.fr 1; have q_d2 := x_d.c2; have f_d2 := x_d.fr 2
      have q_lo0 := x_lo.c0; have q_lo1 := x_lo.c1; have f_lo0 := x_lo.fr 0; have f_lo1 := x_lo.fr 1; have q_lo2 := x_lo.c2; have f_lo2 := x_lo.fr 2
      have q_hi0 := x_hi.c0; have q_hi1 := x_hi.c1; have f_hi0 := x_hi.fr 0; have f_hi1 := x_hi.fr 1; have q_hi2 := x_hi.c2; have f_hi2 := x_hi.fr 2
      have q_x0 := x_x.c0; have q_x1 := x_x.c1; have f_x0 := x_x.fr 0; have f_x1 := x_x.fr 1; have q_x2 := x_x.c2; have f_x2 := x_x.fr 2
      skip
      with_reducible refine (Value_any _ z1 rfl HZ.out hT HF.out).mono ?_
      rintro e v16 ⟨Ay, ny, cy, rfl, z_y, hb1⟩
      replace x_d := x_d.keep hb1
      replace x_lo := x_lo.keep hb1
      replace x_hi := x_hi.keep hb1
      replace x_x := x_x.keep hb1
      replace hT := hT.keep hb1
      replace zd := zd.keep hb1
      replace z_lo := z_lo.keep hb1
      replace z_hi := z_hi.keep hb1
      replace z_x := z_x.keep hb1
      replace hb := bthen hb hb1
      clear hb1
      replace q_d0 := x_d.c0; replace q_d1 := x_d.c1; replace f_d0 := x_d.fr 0; replace f_d1 := x_d.fr 1; replace q_d2 := x_d.c2; replace f_d2 := x_d.fr 2
      replace q_lo0 := x_lo.c0; replace q_lo1 := x_lo.c1; replace f_lo0 := x_lo.fr 0; replace f_lo1 := x_lo.fr 1; replace q_lo2 := x_lo.c2; replace f_lo2 := x_lo.fr 2
      replace q_hi0 := x_hi.c0; replace q_hi1 := x_hi.c1; replace f_hi0 := x_hi.fr 0; replace f_hi1 := x_hi.fr 1; replace q_hi2 := x_hi.c2; replace f_hi2 := x_hi.fr 2
      replace q_x0 := x_x.c0; replace q_x1 := x_x.c1; replace f_x0 := x_x.fr 0; replace f_x1 := x_x.fr 1; replace q_x2 := x_x.c2; replace f_x2 := x_x.fr 2
      rw [HU.out.1] at z_y
      rw [HU.out.1, HU.out.2]
      have y_d := (x_d.alloc (.cells #[.bool (ngB U), .slice Ay ny cy, .int .i64 G] 30)); have yq_d0 := y_d.c0; have yq_d1 := y_d.c1; have yq_d2 := y_d.c2
      have y_lo := (x_lo.alloc (.cells #[.bool (ngB U), .slice Ay ny cy, .int .i64 G] 30)); have yq_lo0 := y_lo.c0; have yq_lo1 := y_lo.c1; have yq_lo2 := y_lo.c2
      have y_hi := (x_hi.alloc (.cells #[.bool (ngB U), .slice Ay ny cy, .int .i64 G] 30)); have yq_hi0 := y_hi.c0; have yq_hi1 := y_hi.c1; have yq_hi2 := y_hi.c2
      have y_x := (x_x.alloc (.cells #[.bool (ngB U), .slice Ay ny cy, .int .i64 G] 30)); have yq_x0 := y_x.c0; have yq_x1 := y_x.c1; have yq_x2 := y_x.c2
      go_wp2_with fail
      clear y_d yq_d0 yq_d1 yq_d2 y_lo yq_lo0 yq_lo1 yq_lo2 y_hi yq_hi0 yq_hi1 yq_hi2 y_x yq_x0 yq_x1 yq_x2
      have hb1 := below_alloc v16 (.cells #[.bool (ngB U), .slice Ay ny cy, .int .i64 G] 30)
      have l_d_y := x_d.lt
      have l_lo_y := x_lo.lt
      have l_hi_y := x_hi.lt
      have l_x_y := x_x.lt
      have x_y := Dx.new v16 (ngB U) Ay ny cy G
      have e_y : w.heap.size ≤ v16.heap.size := hb.size
      replace x_d := x_d.keep hb1
      replace x_lo := x_lo.keep hb1
      replace x_hi := x_hi.keep hb1
      replace x_x := x_x.keep hb1
      replace hT := hT.keep hb1
      replace zd := zd.keep hb1
      replace z_lo := z_lo.keep hb1
      replace z_hi := z_hi.keep hb1
      replace z_x := z_x.keep hb1
      replace z_y := z_y.keep hb1
      replace hb := bthen hb hb1
      clear hb1
      replace q_d0 := x_d.c0; replace q_d1 := x_d.c1; replace f_d0 := x_d.fr 0; replace f_d1 := x_d.fr 1; replace q_d2 := x_d.c2; replace f_d2 := x_d.fr 2
      replace q_lo0 := x_lo.c0; replace q_lo1 := x_lo.c1; replace f_lo0 := x_lo.fr 0; replace f_lo1 := x_lo.fr 1; replace q_lo2 := x_lo.c2; replace f_lo2 := x_lo.fr 2
      replace q_hi0 := x_hi.c0; replace q_hi1 := x_hi.c1; replace f_hi0 := x_hi.fr 0; replace f_hi1 := x_hi.fr 1; replace q_hi2 := x_hi.c2; replace f_hi2 := x_hi.fr 2
      replace q_x0 := x_x.c0; replace q_x1 := x_x.c1; replace f_x0 := x_x.fr 0; replace f_x1 := x_x.fr 1; replace q_x2 := x_x.c2; replace f_x2 := x_x.fr 2
      clear q_d0 q_d1 f_d0 f_d1 q_d2 f_d2 q_lo0 q_lo1 f_lo0 f_lo1 q_lo2 f_lo2 q_hi0 q_hi1 f_hi0 f_hi1 q_hi2 f_hi2 q_x0 q_x1 f_x0 f_x1 q_x2 f_x2
      generalize v16.alloc (.cells #[.bool (ngB U), .slice Ay ny cy, .int .i64 G] 30) = v17 at *
      have q_d0 := x_d.c0; have q_d1 := x_d.c1; have f_d0 := x_d.fr 0; have f_d1 := x_d.fr 1; have q_d2 := x_d.c2; have f_d2 := x_d.fr 2
      have q_lo0 := x_lo.c0; have q_lo1 := x_lo.c1; have f_lo0 := x_lo.fr 0; have f_lo1 := x_lo.fr 1; have q_lo2 := x_lo.c2; have f_lo2 := x_lo.fr 2
      have q_hi0 := x_hi.c0; have q_hi1 := x_hi.c1; have f_hi0 := x_hi.fr 0; have f_hi1 := x_hi.fr 1; have q_hi2 := x_hi.c2; have f_hi2 := x_hi.fr 2
      have q_x0 := x_x.c0; have q_x1 := x_x.c1; have f_x0 := x_x.fr 0; have f_x1 := x_x.fr 1; have q_x2 := x_x.c2; have f_x2 := x_x.fr 2
      have q_y0 := x_y.c0; have q_y1 := x_y.c1; have f_y0 := x_y.fr 0; have f_y1 := x_y.fr 1; have q_y2 := x_y.c2; have f_y2 := x_y.fr 2
      skip
      with_reducible refine (Normal_any _ J rfl HJ.out.1).mono ?_
      rintro e v18 ⟨rfl, hb1⟩
      replace x_d := x_d.keep hb1
      replace x_lo := x_lo.keep hb1
      replace x_hi := x_hi.keep hb1
      replace x_x := x_x.keep hb1
      replace x_y := x_y.keep hb1
      replace hT := hT.keep hb1
      replace zd := zd.keep hb1
      replace z_lo := z_lo.keep hb1
      replace z_hi := z_hi.keep hb1
      replace z_x := z_x.keep hb1
      replace z_y := z_y.keep hb1
      replace hb := bthen hb hb1
      clear hb1
      replace q_d0 := x_d.c0; replace q_d1 := x_d.c1; replace f_d0 := x_d.fr 0; replace f_d1 := x_d.fr 1; replace q_d2 := x_d.c2; replace f_d2 := x_d.fr 2
      replace q_lo0 := x_lo.c0; replace q_lo1 := x_lo.c1; replace f_lo0 := x_lo.fr 0; replace f_lo1 := x_lo.fr 1; replace q_lo2 := x_lo.c2; replace f_lo2 := x_lo.fr 2
      replace q_hi0 := x_hi.c0; replace q_hi1 := x_hi.c1; replace f_hi0 := x_hi.fr 0; replace f_hi1 := x_hi.fr 1; replace q_hi2 := x_hi.c2; replace f_hi2 := x_hi.fr 2
      replace q_x0 := x_x.c0; replace q_x1 := x_x.c1; replace f_x0 := x_x.fr 0; replace f_x1 := x_x.fr 1; replace q_x2 := x_x.c2; replace f_x2 := x_x.fr 2
      replace q_y0 := x_y.c0; replace q_y1 := x_y.c1; replace f_y0 := x_y.fr 0; replace f_y1 := x_y.fr 1; replace q_y2 := x_y.c2; replace f_y2 := x_y.fr 2
      rw [HJ.out.2.2]
      go_wp2_with fail
      with_reducible refine (DCmp_any z_x.zr zd (by omega) (by omega)).mono ?_
      rintro e v19 ⟨rfl, hb1⟩
      replace x_d := x_d.keep hb1
      replace x_lo := x_lo.keep hb1
      replace x_hi := x_hi.keep hb1
      replace x_x := x_x.keep hb1
      replace x_y := x_y.keep hb1
      replace hT := hT.keep hb1
      replace zd := zd.keep hb1
      replace z_lo := z_lo.keep hb1
      replace z_hi := z_hi.keep hb1
      replace z_x := z_x.keep hb1
      replace z_y := z_y.keep hb1
      replace hb := bthen hb hb1
      clear hb1
      replace q_d0 := x_d.c0; replace q_d1 := x_d.c1; replace f_d0 := x_d.fr 0; replace f_d1 := x_d.fr 1; replace q_d2 := x_d.c2; replace f_d2 := x_d.fr 2
      replace q_lo0 := x_lo.c0; replace q_lo1 := x_lo.c1; replace f_lo0 := x_lo.fr 0; replace f_lo1 := x_lo.fr 1; replace q_lo2 := x_lo.c2; replace f_lo2 := x_lo.fr 2
      replace q_hi0 := x_hi.c0; replace q_hi1 := x_hi.c1; replace f_hi0 := x_hi.fr 0; replace f_hi1 := x_hi.fr 1; replace q_hi2 := x_hi.c2; replace f_hi2 := x_hi.fr 2
      replace q_x0 := x_x.c0; replace q_x1 := x_x.c1; replace f_x0 := x_x.fr 0; replace f_x1 := x_x.fr 1; replace q_x2 := x_x.c2; replace f_x2 := x_x.fr 2
      replace q_y0 := x_y.c0; replace q_y1 := x_y.c1; replace f_y0 := x_y.fr 0; replace f_y1 := x_y.fr 1; replace q_y2 := x_y.c2; replace f_y2 := x_y.fr 2
      rw [HC3.out]
      go_wp2_with fail
      with_reducible refine (DCmp_any zd z_y.zr (by omega) (by omega)).mono ?_
      rintro e v20 ⟨rfl, hb1⟩
      replace x_d := x_d.keep hb1
      replace x_lo := x_lo.keep hb1
      replace x_hi := x_hi.keep hb1
      replace x_x := x_x.keep hb1
      replace x_y := x_y.keep hb1
      replace hT := hT.keep hb1
      replace zd := zd.keep hb1
      replace z_lo := z_lo.keep hb1
      replace z_hi := z_hi.keep hb1
      replace z_x := z_x.keep hb1
      replace z_y := z_y.keep hb1
      replace hb := bthen hb hb1
      clear hb1
      replace q_d0 := x_d.c0; replace q_d1 := x_d.c1; replace f_d0 := x_d.fr 0; replace f_d1 := x_d.fr 1; replace q_d2 := x_d.c2; replace f_d2 := x_d.fr 2
      replace q_lo0 := x_lo.c0; replace q_lo1 := x_lo.c1; replace f_lo0 := x_lo.fr 0; replace f_lo1 := x_lo.fr 1; replace q_lo2 := x_lo.c2; replace f_lo2 := x_lo.fr 2
      replace q_hi0 := x_hi.c0; replace q_hi1 := x_hi.c1; replace f_hi0 := x_hi.fr 0; replace f_hi1 := x_hi.fr 1; replace q_hi2 := x_hi.c2; replace f_hi2 := x_hi.fr 2
      replace q_x0 := x_x.c0; replace q_x1 := x_x.c1; replace f_x0 := x_x.fr 0; replace f_x1 := x_x.fr 1; replace q_x2 := x_x.c2; replace f_x2 := x_x.fr 2
      replace q_y0 := x_y.c0; replace q_y1 := x_y.c1; replace f_y0 := x_y.fr 0; replace f_y1 := x_y.fr 1; replace q_y2 := x_y.c2; replace f_y2 := x_y.fr 2
      rw [HC4.out]
      go_wp2
      go_ret
      exact ⟨rfl, hb⟩
    · have hF : fdN z1 = 2047 := by
        have hzz : z1 = 9218868437227405312 := by omega
        rw [hzz]; rfl
      have HF := Lib.hid hF
      clear hF n7 n3 hz hz1
      skip
      with_reducible refine (ZOf_any 1 (by omega) (by omega)).mono ?_
      rintro e v5 ⟨A_lo, n_lo, c_lo, rfl, za, hb1⟩
      replace x_d := x_d.keep hb1
      replace hT := hT.keep hb1
      replace zd := zd.keep hb1
      replace hb := bthen hb hb1
      clear hb1
      replace q_d0 := x_d.c0; replace q_d1 := x_d.c1; replace f_d0 := x_d.fr 0; replace f_d1 := x_d.fr 1; replace q_d2 := x_d.c2; replace f_d2 := x_d.fr 2
      go_wp2_with fail
      with_reducible refine (DOf_any za.zr hT 2 (by omega) (by omega)).mono ?_
      rintro e v6 ⟨Alo, nlo, clo, rfl, z_lo, hb1⟩
      replace x_d := x_d.keep hb1
      replace hT := hT.keep hb1
      replace zd := zd.keep hb1
      replace za := za.keep hb1
      replace hb := bthen hb hb1
      clear hb1
      replace q_d0 := x_d.c0; replace q_d1 := x_d.c1; replace f_d0 := x_d.fr 0; replace f_d1 := x_d.fr 1; replace q_d2 := x_d.c2; replace f_d2 := x_d.fr 2
      rw [HOL.out.1] at z_lo
      rw [HOL.out.1, HOL.out.2]
      clear za
      have y_d := (x_d.alloc (.cells #[.bool (ngB 1), .slice Alo nlo clo, .int .i64 (-1022)] 30)); have yq_d0 := y_d.c0; have yq_d1 := y_d.c1; have yq_d2 := y_d.c2
      go_wp2_with fail
      clear y_d yq_d0 yq_d1 yq_d2
      have hb1 := below_alloc v6 (.cells #[.bool (ngB 1), .slice Alo nlo clo, .int .i64 (-1022)] 30)
      have l_d_lo := x_d.lt
      have x_lo := Dx.new v6 (ngB 1) Alo nlo clo (-1022)
      have e_lo : w.heap.size ≤ v6.heap.size := hb.size
      replace x_d := x_d.keep hb1
      replace hT := hT.keep hb1
      replace zd := zd.keep hb1
      replace z_lo := z_lo.keep hb1
      replace hb := bthen hb hb1
      clear hb1
      replace q_d0 := x_d.c0; replace q_d1 := x_d.c1; replace f_d0 := x_d.fr 0; replace f_d1 := x_d.fr 1; replace q_d2 := x_d.c2; replace f_d2 := x_d.fr 2
      clear q_d0 q_d1 f_d0 f_d1 q_d2 f_d2
      generalize v6.alloc (.cells #[.bool (ngB 1), .slice Alo nlo clo, .int .i64 (-1022)] 30) = v7 at *
      have q_d0 := x_d.c0; have q_d1 := x_d.c1; have f_d0 := x_d.fr 0; have f_d1 := x_d.fr 1; have q_d2 := x_d.c2; have f_d2 := x_d.fr 2
      have q_lo0 := x_lo.c0; have q_lo1 := x_lo.c1; have f_lo0 := x_lo.fr 0; have f_lo1 := x_lo.fr 1; have q_lo2 := x_lo.c2; have f_lo2 := x_lo.fr 2
      skip
      with_reducible refine (ZOf_any 1 (by omega) (by omega)).mono ?_
      rintro e v8 ⟨A_hi, n_hi, c_hi, rfl, za, hb1⟩
      replace x_d := x_d.keep hb1
      replace x_lo := x_lo.keep hb1
      replace hT := hT.keep hb1
      replace zd := zd.keep hb1
      replace z_lo := z_lo.keep hb1
      replace hb := bthen hb hb1
      clear hb1
      replace q_d0 := x_d.c0; replace q_d1 := x_d.c1; replace f_d0 := x_d.fr 0; replace f_d1 := x_d.fr 1; replace q_d2 := x_d.c2; replace f_d2 := x_d.fr 2
      replace q_lo0 := x_lo.c0; replace q_lo1 := x_lo.c1; replace f_lo0 := x_lo.fr 0; replace f_lo1 := x_lo.fr 1; replace q_lo2 := x_lo.c2; replace f_lo2 := x_lo.fr 2
      go_wp2_with fail
      with_reducible refine (DOf_any za.zr hT 2 (by omega) (by omega)).mono ?_
      rintro e v9 ⟨Ahi, nhi, chi, rfl, z_hi, hb1⟩
      replace x_d := x_d.keep hb1
      replace x_lo := x_lo.keep hb1
      replace hT := hT.keep hb1
      replace zd := zd.keep hb1
      replace z_lo := z_lo.keep hb1
      replace za := za.keep hb1
      replace hb := bthen hb hb1
      clear hb1
      replace q_d0 := x_d.c0; replace q_d1 := x_d.c1; replace f_d0 := x_d.fr 0; replace f_d1 := x_d.fr 1; replace q_d2 := x_d.c2; replace f_d2 := x_d.fr 2
      replace q_lo0 := x_lo.c0; replace q_lo1 := x_lo.c1; replace f_lo0 := x_lo.fr 0; replace f_lo1 := x_lo.fr 1; replace q_lo2 := x_lo.c2; replace f_lo2 := x_lo.fr 2
      rw [HOH.out.1] at z_hi
      rw [HOH.out.1, HOH.out.2]
      clear za
      have y_d := (x_d.alloc (.cells #[.bool (ngB 1), .slice Ahi nhi chi, .int .i64 1024] 30)); have yq_d0 := y_d.c0; have yq_d1 := y_d.c1; have yq_d2 := y_d.c2
      have y_lo := (x_lo.alloc (.cells #[.bool (ngB 1), .slice Ahi nhi chi, .int .i64 1024] 30)); have yq_lo0 := y_lo.c0; have yq_lo1 := y_lo.c1; have yq_lo2 := y_lo.c2
      go_wp2_with fail
      clear y_d yq_d0 yq_d1 yq_d2 y_lo yq_lo0 yq_lo1 yq_lo2
      have hb1 := below_alloc v9 (.cells #[.bool (ngB 1), .slice Ahi nhi chi, .int .i64 1024] 30)
      have l_d_hi := x_d.lt
      have l_lo_hi := x_lo.lt
      have x_hi := Dx.new v9 (ngB 1) Ahi nhi chi 1024
      have e_hi : w.heap.size ≤ v9.heap.size := hb.size
      replace x_d := x_d.keep hb1
      replace x_lo := x_lo.keep hb1
      replace hT := hT.keep hb1
      replace zd := zd.keep hb1
      replace z_lo := z_lo.keep hb1
      replace z_hi := z_hi.keep hb1
      replace hb := bthen hb hb1
      clear hb1
      replace q_d0 := x_d.c0; replace q_d1 := x_d.c1; replace f_d0 := x_d.fr 0; replace f_d1 := x_d.fr 1; replace q_d2 := x_d.c2; replace f_d2 := x_d.fr 2
      replace q_lo0 := x_lo.c0; replace q_lo1 := x_lo.c1; replace f_lo0 := x_lo.fr 0; replace f_lo1 := x_lo.fr 1; replace q_lo2 := x_lo.c2; replace f_lo2 := x_lo.fr 2
      clear q_d0 q_d1 f_d0 f_d1 q_d2 f_d2 q_lo0 q_lo1 f_lo0 f_lo1 q_lo2 f_lo2
      generalize v9.alloc (.cells #[.bool (ngB 1), .slice Ahi nhi chi, .int .i64 1024] 30) = v10 at *
      have q_d0 := x_d.c0; have q_d1 := x_d.c1; have f_d0 := x_d.fr 0; have f_d1 := x_d.fr 1; have q_d2 := x_d.c2; have f_d2 := x_d.fr 2
      have q_lo0 := x_lo.c0; have q_lo1 := x_lo.c1; have f_lo0 := x_lo.fr 0; have f_lo1 := x_lo.fr 1; have q_lo2 := x_lo.c2; have f_lo2 := x_lo.fr 2
      have q_hi0 := x_hi.c0; have q_hi1 := x_hi.c1; have f_hi0 := x_hi.fr 0; have f_hi1 := x_hi.fr 1; have q_hi2 := x_hi.c2; have f_hi2 := x_hi.fr 2
      skip
      with_reducible refine (Near_in zd (by omega) HIN.out HX.out t HT.out ⟨t1, t2⟩ M J HM.out.1 HM.out.2).mono ?_
      rintro e v11 ⟨rfl, hb1⟩
      replace x_d := x_d.keep hb1
      replace x_lo := x_lo.keep hb1
      replace x_hi := x_hi.keep hb1
      replace hT := hT.keep hb1
      replace zd := zd.keep hb1
      replace z_lo := z_lo.keep hb1
      replace z_hi := z_hi.keep hb1
      replace hb := bthen hb hb1
      clear hb1
      replace q_d0 := x_d.c0; replace q_d1 := x_d.c1; replace f_d0 := x_d.fr 0; replace f_d1 := x_d.fr 1; replace q_d2 := x_d.c2; replace f_d2 := x_d.fr 2
      replace q_lo0 := x_lo.c0; replace q_lo1 := x_lo.c1; replace f_lo0 := x_lo.fr 0; replace f_lo1 := x_lo.fr 1; replace q_lo2 := x_lo.c2; replace f_lo2 := x_lo.fr 2
      replace q_hi0 := x_hi.c0; replace q_hi1 := x_hi.c1; replace f_hi0 := x_hi.fr 0; replace f_hi1 := x_hi.fr 1; replace q_hi2 := x_hi.c2; replace f_hi2 := x_hi.fr 2
      go_wp2_with fail
      with_reducible refine (DCmp_any z_lo.zr zd (by omega) (by omega)).mono ?_
      rintro e v12 ⟨rfl, hb1⟩
      replace x_d := x_d.keep hb1
      replace x_lo := x_lo.keep hb1
      replace x_hi := x_hi.keep hb1
      replace hT := hT.keep hb1
      replace zd := zd.keep hb1
      replace z_lo := z_lo.keep hb1
      replace z_hi := z_hi.keep hb1
      replace hb := bthen hb hb1
      clear hb1
      replace q_d0 := x_d.c0; replace q_d1 := x_d.c1; replace f_d0 := x_d.fr 0; replace f_d1 := x_d.fr 1; replace q_d2 := x_d.c2; replace f_d2 := x_d.fr 2
      replace q_lo0 := x_lo.c0; replace q_lo1 := x_lo.c1; replace f_lo0 := x_lo.fr 0; replace f_lo1 := x_lo.fr 1; replace q_lo2 := x_lo.c2; replace f_lo2 := x_lo.fr 2
      replace q_hi0 := x_hi.c0; replace q_hi1 := x_hi.c1; replace f_hi0 := x_hi.fr 0; replace f_hi1 := x_hi.fr 1; replace q_hi2 := x_hi.c2; replace f_hi2 := x_hi.fr 2
      rw [HC.out.1]
      go_wp2_with fail
      with_reducible refine (DCmp_any zd z_hi.zr (by omega) (by omega)).mono ?_
      rintro e v13 ⟨rfl, hb1⟩
      replace x_d := x_d.keep hb1
      replace x_lo := x_lo.keep hb1
      replace x_hi := x_hi.keep hb1
      replace hT := hT.keep hb1
      replace zd := zd.keep hb1
      replace z_lo := z_lo.keep hb1
      replace z_hi := z_hi.keep hb1
      replace hb := bthen hb hb1
      clear hb1
      replace q_d0 := x_d.c0; replace q_d1 := x_d.c1; replace f_d0 := x_d.fr 0; replace f_d1 := x_d.fr 1; replace q_d2 := x_d.c2; replace f_d2 := x_d.fr 2
      replace q_lo0 := x_lo.c0; replace q_lo1 := x_lo.c1; replace f_lo0 := x_lo.fr 0; replace f_lo1 := x_lo.fr 1; replace q_lo2 := x_lo.c2; replace f_lo2 := x_lo.fr 2
      replace q_hi0 := x_hi.c0; replace q_hi1 := x_hi.c1; replace f_hi0 := x_hi.fr 0; replace f_hi1 := x_hi.fr 1; replace q_hi2 := x_hi.c2; replace f_hi2 := x_hi.fr 2
      rw [HC.out.2]
      go_wp2_with fail
      with_reducible refine (Value_any _ J rfl HJ.out.1 hT HJ.out.2.1).mono ?_
      rintro e v14 ⟨Ax, nx, cx, rfl, z_x, hb1⟩
      replace x_d := x_d.keep hb1
      replace x_lo := x_lo.keep hb1
      replace x_hi := x_hi.keep hb1
      replace hT := hT.keep hb1
      replace zd := zd.keep hb1
      replace z_lo := z_lo.keep hb1
      replace z_hi := z_hi.keep hb1
      replace hb := bthen hb hb1
      clear hb1
      replace q_d0 := x_d.c0; replace q_d1 := x_d.c1; replace f_d0 := x_d.fr 0; replace f_d1 := x_d.fr 1; replace q_d2 := x_d.c2; replace f_d2 := x_d.fr 2
      replace q_lo0 := x_lo.c0; replace q_lo1 := x_lo.c1; replace f_lo0 := x_lo.fr 0; replace f_lo1 := x_lo.fr 1; replace q_lo2 := x_lo.c2; replace f_lo2 := x_lo.fr 2
      replace q_hi0 := x_hi.c0; replace q_hi1 := x_hi.c1; replace f_hi0 := x_hi.fr 0; replace f_hi1 := x_hi.fr 1; replace q_hi2 := x_hi.c2; replace f_hi2 := x_hi.fr 2
      rw [HQ.out.1] at z_x
      rw [HQ.out.1, HQ.out.2]
      have y_d := (x_d.alloc (.cells #[.bool (ngB Q), .slice Ax nx cx, .int .i64 E] 30)); have yq_d0 := y_d.c0; have yq_d1 := y_d.c1; have yq_d2 := y_d.c2
      have y_lo := (x_lo.alloc (.cells #[.bool (ngB Q), .slice Ax nx cx, .int .i64 E] 30)); have yq_lo0 := y_lo.c0; have yq_lo1 := y_lo.c1; have yq_lo2 := y_lo.c2
      have y_hi := (x_hi.alloc (.cells #[.bool (ngB Q), .slice Ax nx cx, .int .i64 E] 30)); have yq_hi0 := y_hi.c0; have yq_hi1 := y_hi.c1; have yq_hi2 := y_hi.c2
      go_wp2_with fail
      clear y_d yq_d0 yq_d1 yq_d2 y_lo yq_lo0 yq_lo1 yq_lo2 y_hi yq_hi0 yq_hi1 yq_hi2
      have hb1 := below_alloc v14 (.cells #[.bool (ngB Q), .slice Ax nx cx, .int .i64 E] 30)
      have l_d_x := x_d.lt
      have l_lo_x := x_lo.lt
      have l_hi_x := x_hi.lt
      have x_x := Dx.new v14 (ngB Q) Ax nx cx E
      have e_x : w.heap.size ≤ v14.heap.size := hb.size
      replace x_d := x_d.keep hb1
      replace x_lo := x_lo.keep hb1
      replace x_hi := x_hi.keep hb1
      replace hT := hT.keep hb1
      replace zd := zd.keep hb1
      replace z_lo := z_lo.keep hb1
      replace z_hi := z_hi.keep hb1
      replace z_x := z_x.keep hb1
      replace hb := bthen hb hb1
      clear hb1
      replace q_d0 := x_d.c0; replace q_d1 := x_d.c1; replace f_d0 := x_d.fr 0; replace f_d1 := x_d.fr 1; replace q_d2 := x_d.c2; replace f_d2 := x_d.fr 2
      replace q_lo0 := x_lo.c0; replace q_lo1 := x_lo.c1; replace f_lo0 := x_lo.fr 0; replace f_lo1 := x_lo.fr 1; replace q_lo2 := x_lo.c2; replace f_lo2 := x_lo.fr 2
      replace q_hi0 := x_hi.c0; replace q_hi1 := x_hi.c1; replace f_hi0 := x_hi.fr 0; replace f_hi1 := x_hi.fr 1; replace q_hi2 := x_hi.c2; replace f_hi2 := x_hi.fr 2
      clear q_d0 q_d1 f_d0 f_d1 q_d2 f_d2 q_lo0 q_lo1 f_lo0 f_lo1 q_lo2 f_lo2 q_hi0 q_hi1 f_hi0 f_hi1 q_hi2 f_hi2
      generalize v14.alloc (.cells #[.bool (ngB Q), .slice Ax nx cx, .int .i64 E] 30) = v15 at *
      have q_d0 := x_d.c0; have q_d1 := x_d.c1; have f_d0 := x_d.fr 0; have f_d1 := x_d.fr 1; have q_d2 := x_d.c2; have f_d2 := x_d.fr 2
      have q_lo0 := x_lo.c0; have q_lo1 := x_lo.c1; have f_lo0 := x_lo.fr 0; have f_lo1 := x_lo.fr 1; have q_lo2 := x_lo.c2; have f_lo2 := x_lo.fr 2
      have q_hi0 := x_hi.c0; have q_hi1 := x_hi.c1; have f_hi0 := x_hi.fr 0; have f_hi1 := x_hi.fr 1; have q_hi2 := x_hi.c2; have f_hi2 := x_hi.fr 2
      have q_x0 := x_x.c0; have q_x1 := x_x.c1; have f_x0 := x_x.fr 0; have f_x1 := x_x.fr 1; have q_x2 := x_x.c2; have f_x2 := x_x.fr 2
      skip
      with_reducible refine (Value_none _ z1 rfl HZ.out HF.out).mono ?_
      rintro e v16 ⟨rfl, hb1⟩
      replace x_d := x_d.keep hb1
      replace x_lo := x_lo.keep hb1
      replace x_hi := x_hi.keep hb1
      replace x_x := x_x.keep hb1
      replace hT := hT.keep hb1
      replace zd := zd.keep hb1
      replace z_lo := z_lo.keep hb1
      replace z_hi := z_hi.keep hb1
      replace z_x := z_x.keep hb1
      replace hb := bthen hb hb1
      clear hb1
      replace q_d0 := x_d.c0; replace q_d1 := x_d.c1; replace f_d0 := x_d.fr 0; replace f_d1 := x_d.fr 1; replace q_d2 := x_d.c2; replace f_d2 := x_d.fr 2
      replace q_lo0 := x_lo.c0; replace q_lo1 := x_lo.c1; replace f_lo0 := x_lo.fr 0; replace f_lo1 := x_lo.fr 1; replace q_lo2 := x_lo.c2; replace f_lo2 := x_lo.fr 2
      replace q_hi0 := x_hi.c0; replace q_hi1 := x_hi.c1; replace f_hi0 := x_hi.fr 0; replace f_hi1 := x_hi.fr 1; replace q_hi2 := x_hi.c2; replace f_hi2 := x_hi.fr 2
      replace q_x0 := x_x.c0; replace q_x1 := x_x.c1; replace f_x0 := x_x.fr 0; replace f_x1 := x_x.fr 1; replace q_x2 := x_x.c2; replace f_x2 := x_x.fr 2
      have y_d := (x_d.alloc (.cells #[.bool false, .slice none 0 0, .int .i64 0] 30)); have yq_d0 := y_d.c0; have yq_d1 := y_d.c1; have yq_d2 := y_d.c2
      have y_lo := (x_lo.alloc (.cells #[.bool false, .slice none 0 0, .int .i64 0] 30)); have yq_lo0 := y_lo.c0; have yq_lo1 := y_lo.c1; have yq_lo2 := y_lo.c2
      have y_hi := (x_hi.alloc (.cells #[.bool false, .slice none 0 0, .int .i64 0] 30)); have yq_hi0 := y_hi.c0; have yq_hi1 := y_hi.c1; have yq_hi2 := y_hi.c2
      have y_x := (x_x.alloc (.cells #[.bool false, .slice none 0 0, .int .i64 0] 30)); have yq_x0 := y_x.c0; have yq_x1 := y_x.c1; have yq_x2 := y_x.c2
      go_wp2_with fail
      clear y_d yq_d0 yq_d1 yq_d2 y_lo yq_lo0 yq_lo1 yq_lo2 y_hi yq_hi0 yq_hi1 yq_hi2 y_x yq_x0 yq_x1 yq_x2
      have hb1 := below_alloc v16 (.cells #[.bool false, .slice none 0 0, .int .i64 0] 30)
      have l_d_y := x_d.lt
      have l_lo_y := x_lo.lt
      have l_hi_y := x_hi.lt
      have l_x_y := x_x.lt
      have x_y := Dx.new v16 false none 0 0 0
      have e_y : w.heap.size ≤ v16.heap.size := hb.size
      replace x_d := x_d.keep hb1
      replace x_lo := x_lo.keep hb1
      replace x_hi := x_hi.keep hb1
      replace x_x := x_x.keep hb1
      replace hT := hT.keep hb1
      replace zd := zd.keep hb1
      replace z_lo := z_lo.keep hb1
      replace z_hi := z_hi.keep hb1
      replace z_x := z_x.keep hb1
      replace hb := bthen hb hb1
      clear hb1
      replace q_d0 := x_d.c0; replace q_d1 := x_d.c1; replace f_d0 := x_d.fr 0; replace f_d1 := x_d.fr 1; replace q_d2 := x_d.c2; replace f_d2 := x_d.fr 2
      replace q_lo0 := x_lo.c0; replace q_lo1 := x_lo.c1; replace f_lo0 := x_lo.fr 0; replace f_lo1 := x_lo.fr 1; replace q_lo2 := x_lo.c2; replace f_lo2 := x_lo.fr 2
      replace q_hi0 := x_hi.c0; replace q_hi1 := x_hi.c1; replace f_hi0 := x_hi.fr 0; replace f_hi1 := x_hi.fr 1; replace q_hi2 := x_hi.c2; replace f_hi2 := x_hi.fr 2
      replace q_x0 := x_x.c0; replace q_x1 := x_x.c1; replace f_x0 := x_x.fr 0; replace f_x1 := x_x.fr 1; replace q_x2 := x_x.c2; replace f_x2 := x_x.fr 2
      clear q_d0 q_d1 f_d0 f_d1 q_d2 f_d2 q_lo0 q_lo1 f_lo0 f_lo1 q_lo2 f_lo2 q_hi0 q_hi1 f_hi0 f_hi1 q_hi2 f_hi2 q_x0 q_x1 f_x0 f_x1 q_x2 f_x2
      generalize v16.alloc (.cells #[.bool false, .slice none 0 0, .int .i64 0] 30) = v17 at *
      have q_d0 := x_d.c0; have q_d1 := x_d.c1; have f_d0 := x_d.fr 0; have f_d1 := x_d.fr 1; have q_d2 := x_d.c2; have f_d2 := x_d.fr 2
      have q_lo0 := x_lo.c0; have q_lo1 := x_lo.c1; have f_lo0 := x_lo.fr 0; have f_lo1 := x_lo.fr 1; have q_lo2 := x_lo.c2; have f_lo2 := x_lo.fr 2
      have q_hi0 := x_hi.c0; have q_hi1 := x_hi.c1; have f_hi0 := x_hi.fr 0; have f_hi1 := x_hi.fr 1; have q_hi2 := x_hi.c2; have f_hi2 := x_hi.fr 2
      have q_x0 := x_x.c0; have q_x1 := x_x.c1; have f_x0 := x_x.fr 0; have f_x1 := x_x.fr 1; have q_x2 := x_x.c2; have f_x2 := x_x.fr 2
      have q_y0 := x_y.c0; have q_y1 := x_y.c1; have f_y0 := x_y.fr 0; have f_y1 := x_y.fr 1; have q_y2 := x_y.c2; have f_y2 := x_y.fr 2
      skip
      with_reducible refine (Normal_any _ J rfl HJ.out.1).mono ?_
      rintro e v18 ⟨rfl, hb1⟩
      replace x_d := x_d.keep hb1
      replace x_lo := x_lo.keep hb1
      replace x_hi := x_hi.keep hb1
      replace x_x := x_x.keep hb1
      replace x_y := x_y.keep hb1
      replace hT := hT.keep hb1
      replace zd := zd.keep hb1
      replace z_lo := z_lo.keep hb1
      replace z_hi := z_hi.keep hb1
      replace z_x := z_x.keep hb1
      replace hb := bthen hb hb1
      clear hb1
      replace q_d0 := x_d.c0; replace q_d1 := x_d.c1; replace f_d0 := x_d.fr 0; replace f_d1 := x_d.fr 1; replace q_d2 := x_d.c2; replace f_d2 := x_d.fr 2
      replace q_lo0 := x_lo.c0; replace q_lo1 := x_lo.c1; replace f_lo0 := x_lo.fr 0; replace f_lo1 := x_lo.fr 1; replace q_lo2 := x_lo.c2; replace f_lo2 := x_lo.fr 2
      replace q_hi0 := x_hi.c0; replace q_hi1 := x_hi.c1; replace f_hi0 := x_hi.fr 0; replace f_hi1 := x_hi.fr 1; replace q_hi2 := x_hi.c2; replace f_hi2 := x_hi.fr 2
      replace q_x0 := x_x.c0; replace q_x1 := x_x.c1; replace f_x0 := x_x.fr 0; replace f_x1 := x_x.fr 1; replace q_x2 := x_x.c2; replace f_x2 := x_x.fr 2
      replace q_y0 := x_y.c0; replace q_y1 := x_y.c1; replace f_y0 := x_y.fr 0; replace f_y1 := x_y.fr 1; replace q_y2 := x_y.c2; replace f_y2 := x_y.fr 2
      rw [HJ.out.2.2]
      go_wp2_with fail
      with_reducible refine (DCmp_any z_x.zr zd (by omega) (by omega)).mono ?_
      rintro e v19 ⟨rfl, hb1⟩
      replace x_d := x_d.keep hb1
      replace x_lo := x_lo.keep hb1
      replace x_hi := x_hi.keep hb1
      replace x_x := x_x.keep hb1
      replace x_y := x_y.keep hb1
      replace hT := hT.keep hb1
      replace zd := zd.keep hb1
      replace z_lo := z_lo.keep hb1
      replace z_hi := z_hi.keep hb1
      replace z_x := z_x.keep hb1
      replace hb := bthen hb hb1
      clear hb1
      replace q_d0 := x_d.c0; replace q_d1 := x_d.c1; replace f_d0 := x_d.fr 0; replace f_d1 := x_d.fr 1; replace q_d2 := x_d.c2; replace f_d2 := x_d.fr 2
      replace q_lo0 := x_lo.c0; replace q_lo1 := x_lo.c1; replace f_lo0 := x_lo.fr 0; replace f_lo1 := x_lo.fr 1; replace q_lo2 := x_lo.c2; replace f_lo2 := x_lo.fr 2
      replace q_hi0 := x_hi.c0; replace q_hi1 := x_hi.c1; replace f_hi0 := x_hi.fr 0; replace f_hi1 := x_hi.fr 1; replace q_hi2 := x_hi.c2; replace f_hi2 := x_hi.fr 2
      replace q_x0 := x_x.c0; replace q_x1 := x_x.c1; replace f_x0 := x_x.fr 0; replace f_x1 := x_x.fr 1; replace q_x2 := x_x.c2; replace f_x2 := x_x.fr 2
      replace q_y0 := x_y.c0; replace q_y1 := x_y.c1; replace f_y0 := x_y.fr 0; replace f_y1 := x_y.fr 1; replace q_y2 := x_y.c2; replace f_y2 := x_y.fr 2
      rw [HC3.out]
      go_wp2
      go_ret
      exact ⟨rfl, hb⟩
  · have HO : Hid (X ≤ 0 ∨ E0 + (bl X.natAbs : Int) - 1 < -1022 ∨ 1023 < E0 + (bl X.natAbs : Int) - 1) := Lib.hid (by have := HT.out; omega)
    clear hout
    skip
    with_reducible refine (ZOf_any 1 (by omega) (by omega)).mono ?_
    rintro e v5 ⟨A_lo, n_lo, c_lo, rfl, za, hb1⟩
    replace x_d := x_d.keep hb1
    replace hT := hT.keep hb1
    replace zd := zd.keep hb1
    replace hb := bthen hb hb1
    clear hb1
    replace q_d0 := x_d.c0; replace q_d1 := x_d.c1; replace f_d0 := x_d.fr 0; replace f_d1 := x_d.fr 1; replace q_d2 := x_d.c2; replace f_d2 := x_d.fr 2
    go_wp2_with fail
    with_reducible refine (DOf_any za.zr hT 2 (by omega) (by omega)).mono ?_
    rintro e v6 ⟨Alo, nlo, clo, rfl, z_lo, hb1⟩
    replace x_d := x_d.keep hb1
    replace hT := hT.keep hb1
    replace zd := zd.keep hb1
    replace za := za.keep hb1
    replace hb := bthen hb hb1
    clear hb1
    replace q_d0 := x_d.c0; replace q_d1 := x_d.c1; replace f_d0 := x_d.fr 0; replace f_d1 := x_d.fr 1; replace q_d2 := x_d.c2; replace f_d2 := x_d.fr 2
    rw [HOL.out.1] at z_lo
    rw [HOL.out.1, HOL.out.2]
    clear za
    have y_d := (x_d.alloc (.cells #[.bool (ngB 1), .slice Alo nlo clo, .int .i64 (-1022)] 30)); have yq_d0 := y_d.c0; have yq_d1 := y_d.c1; have yq_d2 := y_d.c2
    go_wp2_with fail
    clear y_d yq_d0 yq_d1 yq_d2
    have hb1 := below_alloc v6 (.cells #[.bool (ngB 1), .slice Alo nlo clo, .int .i64 (-1022)] 30)
    have l_d_lo := x_d.lt
    have x_lo := Dx.new v6 (ngB 1) Alo nlo clo (-1022)
    have e_lo : w.heap.size ≤ v6.heap.size := hb.size
    replace x_d := x_d.keep hb1
    replace hT := hT.keep hb1
    replace zd := zd.keep hb1
    replace z_lo := z_lo.keep hb1
    replace hb := bthen hb hb1
    clear hb1
    replace q_d0 := x_d.c0; replace q_d1 := x_d.c1; replace f_d0 := x_d.fr 0; replace f_d1 := x_d.fr 1; replace q_d2 := x_d.c2; replace f_d2 := x_d.fr 2
    clear q_d0 q_d1 f_d0 f_d1 q_d2 f_d2
    generalize v6.alloc (.cells #[.bool (ngB 1), .slice Alo nlo clo, .int .i64 (-1022)] 30) = v7 at *
    have q_d0 := x_d.c0; have q_d1 := x_d.c1; have f_d0 := x_d.fr 0; have f_d1 := x_d.fr 1; have q_d2 := x_d.c2; have f_d2 := x_d.fr 2
    have q_lo0 := x_lo.c0; have q_lo1 := x_lo.c1; have f_lo0 := x_lo.fr 0; have f_lo1 := x_lo.fr 1; have q_lo2 := x_lo.c2; have f_lo2 := x_lo.fr 2
    skip
    with_reducible refine (ZOf_any 1 (by omega) (by omega)).mono ?_
    rintro e v8 ⟨A_hi, n_hi, c_hi, rfl, za, hb1⟩
    replace x_d := x_d.keep hb1
    replace x_lo := x_lo.keep hb1
    replace hT := hT.keep hb1
    replace zd := zd.keep hb1
    replace z_lo := z_lo.keep hb1
    replace hb := bthen hb hb1
    clear hb1
    replace q_d0 := x_d.c0; replace q_d1 := x_d.c1; replace f_d0 := x_d.fr 0; replace f_d1 := x_d.fr 1; replace q_d2 := x_d.c2; replace f_d2 := x_d.fr 2
    replace q_lo0 := x_lo.c0; replace q_lo1 := x_lo.c1; replace f_lo0 := x_lo.fr 0; replace f_lo1 := x_lo.fr 1; replace q_lo2 := x_lo.c2; replace f_lo2 := x_lo.fr 2
    go_wp2_with fail
    with_reducible refine (DOf_any za.zr hT 2 (by omega) (by omega)).mono ?_
    rintro e v9 ⟨Ahi, nhi, chi, rfl, z_hi, hb1⟩
    replace x_d := x_d.keep hb1
    replace x_lo := x_lo.keep hb1
    replace hT := hT.keep hb1
    replace zd := zd.keep hb1
    replace z_lo := z_lo.keep hb1
    replace za := za.keep hb1
    replace hb := bthen hb hb1
    clear hb1
    replace q_d0 := x_d.c0; replace q_d1 := x_d.c1; replace f_d0 := x_d.fr 0; replace f_d1 := x_d.fr 1; replace q_d2 := x_d.c2; replace f_d2 := x_d.fr 2
    replace q_lo0 := x_lo.c0; replace q_lo1 := x_lo.c1; replace f_lo0 := x_lo.fr 0; replace f_lo1 := x_lo.fr 1; replace q_lo2 := x_lo.c2; replace f_lo2 := x_lo.fr 2
    rw [HOH.out.1] at z_hi
    rw [HOH.out.1, HOH.out.2]
    clear za
    have y_d := (x_d.alloc (.cells #[.bool (ngB 1), .slice Ahi nhi chi, .int .i64 1024] 30)); have yq_d0 := y_d.c0; have yq_d1 := y_d.c1; have yq_d2 := y_d.c2
    have y_lo := (x_lo.alloc (.cells #[.bool (ngB 1), .slice Ahi nhi chi, .int .i64 1024] 30)); have yq_lo0 := y_lo.c0; have yq_lo1 := y_lo.c1; have yq_lo2 := y_lo.c2
    go_wp2_with fail
    clear y_d yq_d0 yq_d1 yq_d2 y_lo yq_lo0 yq_lo1 yq_lo2
    have hb1 := below_alloc v9 (.cells #[.bool (ngB 1), .slice Ahi nhi chi, .int .i64 1024] 30)
    have l_d_hi := x_d.lt
    have l_lo_hi := x_lo.lt
    have x_hi := Dx.new v9 (ngB 1) Ahi nhi chi 1024
    have e_hi : w.heap.size ≤ v9.heap.size := hb.size
    replace x_d := x_d.keep hb1
    replace x_lo := x_lo.keep hb1
    replace hT := hT.keep hb1
    replace zd := zd.keep hb1
    replace z_lo := z_lo.keep hb1
    replace z_hi := z_hi.keep hb1
    replace hb := bthen hb hb1
    clear hb1
    replace q_d0 := x_d.c0; replace q_d1 := x_d.c1; replace f_d0 := x_d.fr 0; replace f_d1 := x_d.fr 1; replace q_d2 := x_d.c2; replace f_d2 := x_d.fr 2
    replace q_lo0 := x_lo.c0; replace q_lo1 := x_lo.c1; replace f_lo0 := x_lo.fr 0; replace f_lo1 := x_lo.fr 1; replace q_lo2 := x_lo.c2; replace f_lo2 := x_lo.fr 2
    clear q_d0 q_d1 f_d0 f_d1 q_d2 f_d2 q_lo0 q_lo1 f_lo0 f_lo1 q_lo2 f_lo2
    generalize v9.alloc (.cells #[.bool (ngB 1), .slice Ahi nhi chi, .int .i64 1024] 30) = v10 at *
    have q_d0 := x_d.c0; have q_d1 := x_d.c1; have f_d0 := x_d.fr 0; have f_d1 := x_d.fr 1; have q_d2 := x_d.c2; have f_d2 := x_d.fr 2
    have q_lo0 := x_lo.c0; have q_lo1 := x_lo.c1; have f_lo0 := x_lo.fr 0; have f_lo1 := x_lo.fr 1; have q_lo2 := x_lo.c2; have f_lo2 := x_lo.fr 2
    have q_hi0 := x_hi.c0; have q_hi1 := x_hi.c1; have f_hi0 := x_hi.fr 0; have f_hi1 := x_hi.fr 1; have q_hi2 := x_hi.c2; have f_hi2 := x_hi.fr 2
    skip
    with_reducible refine (Near_out zd (by omega) HIN.out HO.out).mono ?_
    rintro e v11 ⟨rfl, hb1⟩
    replace x_d := x_d.keep hb1
    replace x_lo := x_lo.keep hb1
    replace x_hi := x_hi.keep hb1
    replace hT := hT.keep hb1
    replace zd := zd.keep hb1
    replace z_lo := z_lo.keep hb1
    replace z_hi := z_hi.keep hb1
    replace hb := bthen hb hb1
    clear hb1
    replace q_d0 := x_d.c0; replace q_d1 := x_d.c1; replace f_d0 := x_d.fr 0; replace f_d1 := x_d.fr 1; replace q_d2 := x_d.c2; replace f_d2 := x_d.fr 2
    replace q_lo0 := x_lo.c0; replace q_lo1 := x_lo.c1; replace f_lo0 := x_lo.fr 0; replace f_lo1 := x_lo.fr 1; replace q_lo2 := x_lo.c2; replace f_lo2 := x_lo.fr 2
    replace q_hi0 := x_hi.c0; replace q_hi1 := x_hi.c1; replace f_hi0 := x_hi.fr 0; replace f_hi1 := x_hi.fr 1; replace q_hi2 := x_hi.c2; replace f_hi2 := x_hi.fr 2
    go_wp2_with fail
    with_reducible refine (DCmp_any z_lo.zr zd (by omega) (by omega)).mono ?_
    rintro e v12 ⟨rfl, hb1⟩
    replace x_d := x_d.keep hb1
    replace x_lo := x_lo.keep hb1
    replace x_hi := x_hi.keep hb1
    replace hT := hT.keep hb1
    replace zd := zd.keep hb1
    replace z_lo := z_lo.keep hb1
    replace z_hi := z_hi.keep hb1
    replace hb := bthen hb hb1
    clear hb1
    replace q_d0 := x_d.c0; replace q_d1 := x_d.c1; replace f_d0 := x_d.fr 0; replace f_d1 := x_d.fr 1; replace q_d2 := x_d.c2; replace f_d2 := x_d.fr 2
    replace q_lo0 := x_lo.c0; replace q_lo1 := x_lo.c1; replace f_lo0 := x_lo.fr 0; replace f_lo1 := x_lo.fr 1; replace q_lo2 := x_lo.c2; replace f_lo2 := x_lo.fr 2
    replace q_hi0 := x_hi.c0; replace q_hi1 := x_hi.c1; replace f_hi0 := x_hi.fr 0; replace f_hi1 := x_hi.fr 1; replace q_hi2 := x_hi.c2; replace f_hi2 := x_hi.fr 2
    rw [HC.out.1]
    go_wp2
    go_ret
    exact ⟨rfl, hb⟩
  · have HO : Hid (X ≤ 0 ∨ E0 + (bl X.natAbs : Int) - 1 < -1022 ∨ 1023 < E0 + (bl X.natAbs : Int) - 1) := Lib.hid (by have := HT.out; omega)
    clear hout
    have hs2 := HS2.out
    rcases (show C2 = 0 ∨ C2 = 1 by omega) with rfl | rfl <;> clear hs2 d2
    all_goals (
      skip
      with_reducible refine (ZOf_any 1 (by omega) (by omega)).mono ?_
      rintro e v5 ⟨A_lo, n_lo, c_lo, rfl, za, hb1⟩
      replace x_d := x_d.keep hb1
      replace hT := hT.keep hb1
      replace zd := zd.keep hb1
      replace hb := bthen hb hb1
      clear hb1
      replace q_d0 := x_d.c0; replace q_d1 := x_d.c1; replace f_d0 := x_d.fr 0; replace f_d1 := x_d.fr 1; replace q_d2 := x_d.c2; replace f_d2 := x_d.fr 2
      go_wp2_with fail
      with_reducible refine (DOf_any za.zr hT 2 (by omega) (by omega)).mono ?_
      rintro e v6 ⟨Alo, nlo, clo, rfl, z_lo, hb1⟩
      replace x_d := x_d.keep hb1
      replace hT := hT.keep hb1
      replace zd := zd.keep hb1
      replace za := za.keep hb1
      replace hb := bthen hb hb1
      clear hb1
      replace q_d0 := x_d.c0; replace q_d1 := x_d.c1; replace f_d0 := x_d.fr 0; replace f_d1 := x_d.fr 1; replace q_d2 := x_d.c2; replace f_d2 := x_d.fr 2
      rw [HOL.out.1] at z_lo
      rw [HOL.out.1, HOL.out.2]
      clear za
      have y_d := (x_d.alloc (.cells #[.bool (ngB 1), .slice Alo nlo clo, .int .i64 (-1022)] 30)); have yq_d0 := y_d.c0; have yq_d1 := y_d.c1; have yq_d2 := y_d.c2
      go_wp2_with fail
      clear y_d yq_d0 yq_d1 yq_d2
      have hb1 := below_alloc v6 (.cells #[.bool (ngB 1), .slice Alo nlo clo, .int .i64 (-1022)] 30)
      have l_d_lo := x_d.lt
      have x_lo := Dx.new v6 (ngB 1) Alo nlo clo (-1022)
      have e_lo : w.heap.size ≤ v6.heap.size := hb.size
      replace x_d := x_d.keep hb1
      replace hT := hT.keep hb1
      replace zd := zd.keep hb1
      replace z_lo := z_lo.keep hb1
      replace hb := bthen hb hb1
      clear hb1
      replace q_d0 := x_d.c0; replace q_d1 := x_d.c1; replace f_d0 := x_d.fr 0; replace f_d1 := x_d.fr 1; replace q_d2 := x_d.c2; replace f_d2 := x_d.fr 2
      clear q_d0 q_d1 f_d0 f_d1 q_d2 f_d2
      generalize v6.alloc (.cells #[.bool (ngB 1), .slice Alo nlo clo, .int .i64 (-1022)] 30) = v7 at *
      have q_d0 := x_d.c0; have q_d1 := x_d.c1; have f_d0 := x_d.fr 0; have f_d1 := x_d.fr 1; have q_d2 := x_d.c2; have f_d2 := x_d.fr 2
      have q_lo0 := x_lo.c0; have q_lo1 := x_lo.c1; have f_lo0 := x_lo.fr 0; have f_lo1 := x_lo.fr 1; have q_lo2 := x_lo.c2; have f_lo2 := x_lo.fr 2
      skip
      with_reducible refine (ZOf_any 1 (by omega) (by omega)).mono ?_
      rintro e v8 ⟨A_hi, n_hi, c_hi, rfl, za, hb1⟩
      replace x_d := x_d.keep hb1
      replace x_lo := x_lo.keep hb1
      replace hT := hT.keep hb1
      replace zd := zd.keep hb1
      replace z_lo := z_lo.keep hb1
      replace hb := bthen hb hb1
      clear hb1
      replace q_d0 := x_d.c0; replace q_d1 := x_d.c1; replace f_d0 := x_d.fr 0; replace f_d1 := x_d.fr 1; replace q_d2 := x_d.c2; replace f_d2 := x_d.fr 2
      replace q_lo0 := x_lo.c0; replace q_lo1 := x_lo.c1; replace f_lo0 := x_lo.fr 0; replace f_lo1 := x_lo.fr 1; replace q_lo2 := x_lo.c2; replace f_lo2 := x_lo.fr 2
      go_wp2_with fail
      with_reducible refine (DOf_any za.zr hT 2 (by omega) (by omega)).mono ?_
      rintro e v9 ⟨Ahi, nhi, chi, rfl, z_hi, hb1⟩
      replace x_d := x_d.keep hb1
      replace x_lo := x_lo.keep hb1
      replace hT := hT.keep hb1
      replace zd := zd.keep hb1
      replace z_lo := z_lo.keep hb1
      replace za := za.keep hb1
      replace hb := bthen hb hb1
      clear hb1
      replace q_d0 := x_d.c0; replace q_d1 := x_d.c1; replace f_d0 := x_d.fr 0; replace f_d1 := x_d.fr 1; replace q_d2 := x_d.c2; replace f_d2 := x_d.fr 2
      replace q_lo0 := x_lo.c0; replace q_lo1 := x_lo.c1; replace f_lo0 := x_lo.fr 0; replace f_lo1 := x_lo.fr 1; replace q_lo2 := x_lo.c2; replace f_lo2 := x_lo.fr 2
      rw [HOH.out.1] at z_hi
      rw [HOH.out.1, HOH.out.2]
      clear za
      have y_d := (x_d.alloc (.cells #[.bool (ngB 1), .slice Ahi nhi chi, .int .i64 1024] 30)); have yq_d0 := y_d.c0; have yq_d1 := y_d.c1; have yq_d2 := y_d.c2
      have y_lo := (x_lo.alloc (.cells #[.bool (ngB 1), .slice Ahi nhi chi, .int .i64 1024] 30)); have yq_lo0 := y_lo.c0; have yq_lo1 := y_lo.c1; have yq_lo2 := y_lo.c2
      go_wp2_with fail
      clear y_d yq_d0 yq_d1 yq_d2 y_lo yq_lo0 yq_lo1 yq_lo2
      have hb1 := below_alloc v9 (.cells #[.bool (ngB 1), .slice Ahi nhi chi, .int .i64 1024] 30)
      have l_d_hi := x_d.lt
      have l_lo_hi := x_lo.lt
      have x_hi := Dx.new v9 (ngB 1) Ahi nhi chi 1024
      have e_hi : w.heap.size ≤ v9.heap.size := hb.size
      replace x_d := x_d.keep hb1
      replace x_lo := x_lo.keep hb1
      replace hT := hT.keep hb1
      replace zd := zd.keep hb1
      replace z_lo := z_lo.keep hb1
      replace z_hi := z_hi.keep hb1
      replace hb := bthen hb hb1
      clear hb1
      replace q_d0 := x_d.c0; replace q_d1 := x_d.c1; replace f_d0 := x_d.fr 0; replace f_d1 := x_d.fr 1; replace q_d2 := x_d.c2; replace f_d2 := x_d.fr 2
      replace q_lo0 := x_lo.c0; replace q_lo1 := x_lo.c1; replace f_lo0 := x_lo.fr 0; replace f_lo1 := x_lo.fr 1; replace q_lo2 := x_lo.c2; replace f_lo2 := x_lo.fr 2
      clear q_d0 q_d1 f_d0 f_d1 q_d2 f_d2 q_lo0 q_lo1 f_lo0 f_lo1 q_lo2 f_lo2
      generalize v9.alloc (.cells #[.bool (ngB 1), .slice Ahi nhi chi, .int .i64 1024] 30) = v10 at *
      have q_d0 := x_d.c0; have q_d1 := x_d.c1; have f_d0 := x_d.fr 0; have f_d1 := x_d.fr 1; have q_d2 := x_d.c2; have f_d2 := x_d.fr 2
      have q_lo0 := x_lo.c0; have q_lo1 := x_lo.c1; have f_lo0 := x_lo.fr 0; have f_lo1 := x_lo.fr 1; have q_lo2 := x_lo.c2; have f_lo2 := x_lo.fr 2
      have q_hi0 := x_hi.c0; have q_hi1 := x_hi.c1; have f_hi0 := x_hi.fr 0; have f_hi1 := x_hi.fr 1; have q_hi2 := x_hi.c2; have f_hi2 := x_hi.fr 2
      skip
      with_reducible refine (Near_out zd (by omega) HIN.out HO.out).mono ?_
      rintro e v11 ⟨rfl, hb1⟩
      replace x_d := x_d.keep hb1
      replace x_lo := x_lo.keep hb1
      replace x_hi := x_hi.keep hb1
      replace hT := hT.keep hb1
      replace zd := zd.keep hb1
      replace z_lo := z_lo.keep hb1
      replace z_hi := z_hi.keep hb1
      replace hb := bthen hb hb1
      clear hb1
      replace q_d0 := x_d.c0; replace q_d1 := x_d.c1; replace f_d0 := x_d.fr 0; replace f_d1 := x_d.fr 1; replace q_d2 := x_d.c2; replace f_d2 := x_d.fr 2
      replace q_lo0 := x_lo.c0; replace q_lo1 := x_lo.c1; replace f_lo0 := x_lo.fr 0; replace f_lo1 := x_lo.fr 1; replace q_lo2 := x_lo.c2; replace f_lo2 := x_lo.fr 2
      replace q_hi0 := x_hi.c0; replace q_hi1 := x_hi.c1; replace f_hi0 := x_hi.fr 0; replace f_hi1 := x_hi.fr 1; replace q_hi2 := x_hi.c2; replace f_hi2 := x_hi.fr 2
      go_wp2_with fail
      with_reducible refine (DCmp_any z_lo.zr zd (by omega) (by omega)).mono ?_
      rintro e v12 ⟨rfl, hb1⟩
      replace x_d := x_d.keep hb1
      replace x_lo := x_lo.keep hb1
      replace x_hi := x_hi.keep hb1
      replace hT := hT.keep hb1
      replace zd := zd.keep hb1
      replace z_lo := z_lo.keep hb1
      replace z_hi := z_hi.keep hb1
      replace hb := bthen hb hb1
      clear hb1
      replace q_d0 := x_d.c0; replace q_d1 := x_d.c1; replace f_d0 := x_d.fr 0; replace f_d1 := x_d.fr 1; replace q_d2 := x_d.c2; replace f_d2 := x_d.fr 2
      replace q_lo0 := x_lo.c0; replace q_lo1 := x_lo.c1; replace f_lo0 := x_lo.fr 0; replace f_lo1 := x_lo.fr 1; replace q_lo2 := x_lo.c2; replace f_lo2 := x_lo.fr 2
      replace q_hi0 := x_hi.c0; replace q_hi1 := x_hi.c1; replace f_hi0 := x_hi.fr 0; replace f_hi1 := x_hi.fr 1; replace q_hi2 := x_hi.c2; replace f_hi2 := x_hi.fr 2
      rw [HC.out.1]
      go_wp2_with fail
      with_reducible refine (DCmp_any zd z_hi.zr (by omega) (by omega)).mono ?_
      rintro e v13 ⟨rfl, hb1⟩
      replace x_d := x_d.keep hb1
      replace x_lo := x_lo.keep hb1
      replace x_hi := x_hi.keep hb1
      replace hT := hT.keep hb1
      replace zd := zd.keep hb1
      replace z_lo := z_lo.keep hb1
      replace z_hi := z_hi.keep hb1
      replace hb := bthen hb hb1
      clear hb1
      replace q_d0 := x_d.c0; replace q_d1 := x_d.c1; replace f_d0 := x_d.fr 0; replace f_d1 := x_d.fr 1; replace q_d2 := x_d.c2; replace f_d2 := x_d.fr 2
      replace q_lo0 := x_lo.c0; replace q_lo1 := x_lo.c1; replace f_lo0 := x_lo.fr 0; replace f_lo1 := x_lo.fr 1; replace q_lo2 := x_lo.c2; replace f_lo2 := x_lo.fr 2
      replace q_hi0 := x_hi.c0; replace q_hi1 := x_hi.c1; replace f_hi0 := x_hi.fr 0; replace f_hi1 := x_hi.fr 1; replace q_hi2 := x_hi.c2; replace f_hi2 := x_hi.fr 2
      rw [HC.out.2]
      go_wp2
      go_ret
      exact ⟨rfl, hb⟩)

end Go.Proofs.YthbodamihiddhaaDoor
