/-
  matrix: MatrixAdjugates.
-/
import Derived.Test.YtbpamkpclofnbaaMexc
import Derived.Test.YtbpamkpclofnbaaMlem
import Derived.Test.YtbpamkpclofnbaaMshow
import Derived.Test.YtbpamkpclofnbaaMidx
import Derived.Test.YtbpamkpclofnbaaMadj
namespace Go.Proofs.Ytbpamkpclofnbaa
open Go.RowKit
open MP.Se (nf co)
set_option linter.unusedVariables false
set_option maxRecDepth 100000

/-- The number on the diagonal, nothing beside it. -/
def dg2 (n : Nat) (D : Int) : List (List Int) := mo2 (fun i k => if i = k then D else 0) n n
theorem dg2_at {n : Nat} {D : Int} {L : List (List Int)} (h : dg2 n D = L) {i k : Nat} (hi : i < L.length) (hk : k < L[i].length) : L[i][k] = if i = k then D else 0 := by
  subst h
  simp [dg2, mo2]
theorem adj_r {MA X L : List (List Int)} {n : Nat} (hn : 0 < n) (h1 : mo2 (adjF (n - 1) (mx MA)) n n = X) (h2 : mo2 (MD.mul n (mx MA) (mx X)) n n = L) : dg2 n (MD.det n (mx MA)) = L := by
  subst h1 h2
  obtain ⟨m, rfl⟩ : ∃ m, n = m + 1 := ⟨n - 1, by omega⟩
  refine mo2_ext fun i k hi hk => ?_
  rw [← adj_right hi hk]
  exact MD.sm_congr fun j hj => by rw [mx_mo2 hj hk]; rfl
theorem adj_l {MA X L : List (List Int)} {n : Nat} (hn : 0 < n) (h1 : mo2 (adjF (n - 1) (mx MA)) n n = X) (h2 : mo2 (MD.mul n (mx X) (mx MA)) n n = L) : dg2 n (MD.det n (mx MA)) = L := by
  subst h1 h2
  obtain ⟨m, rfl⟩ : ∃ m, n = m + 1 := ⟨n - 1, by omega⟩
  refine mo2_ext fun i k hi hk => ?_
  rw [← adj_left hi hk]
  exact MD.sm_congr fun j hj => by rw [mx_mo2 hi hj]; rfl
/-- What the loops keep. -/
def AjL (w : World) (g n c : Nat) (A B : Option Addr) (k d : Nat) (D : Int) (L : List (List Int)) (wr : World) : Prop :=
  Bx wr g (ngB D) B k d ∧ Zn wr B k d D 200 ∧ Mn wr A n c L 207 ∧ Below w.heap.size w wr
set_option maxHeartbeats 4000000 in
/-- The law. -/
theorem MatrixAdjugates_any {A : Option Addr} {na ca : Nat} {MA : List (List Int)} {w : World} (aa : Ma w A na ca MA) :
    Calls Try.prog 4 #[.slice A na ca] w fun e w' => e = .returned (.bool true) ∧ Below w.heap.size w w' := by
  have hb := Below.refl w.heap.size w
  go_enter Try.func4, Try.ntmps4
  go_wp2_with fail
  with_reducible refine (LMshown_any).mono ?_
  rintro e v1 ⟨rfl, hb1⟩
  obtain ⟨aa, hb⟩ := mv2 hb1 aa hb
  clear hb1
  go_wp2_with fail
  refine (RMFits_any (R := 6) (C := 6) (L := 1) aa (by omega) (by omega) (by omega)).mono ?_
  rintro e v2 ⟨hc, hb1⟩
  obtain ⟨aa, hb⟩ := mv2 hb1 aa hb
  clear hb1
  rcases hc with rfl | ⟨rfl, Na, ra, pa⟩
  · go_wp2; go_ret; exact ⟨rfl, hb⟩
  replace pa := pa.me
  have Ra := Lib.hid ra
  clear aa ra
  have hk6 : kb 1 na ≤ 190 := Nat.le_trans (kb_mono Na) (by decide)
  by_cases hr : Rt MA na na
  rotate_left
  · skip
    go_wp2_with fail
    with_reducible refine (MDet_any (J := 1) pa.md (by omega) (by omega) (by omega)).mono ?_
    rintro e v3 ⟨hb1, hcase⟩
    obtain ⟨pa, hb⟩ := mv2 hb1 pa hb
    clear hb1
    obtain ⟨_, rfl⟩ := hcase.resolve_right (fun h => hr h.1)
    clear hcase
    go_wp2_with fail
    refine al1c fun v4 hb1 x_d => ?_
    replace x_d := Bx.of x_d
    obtain ⟨pa, hb⟩ := mv2 hb1 pa hb
    clear hb1
    have q_d := x_d.al
    with_reducible refine (MAdjugate_any (J := 1) (KM := 190) pa.md (by omega) (by omega) hk6 (by omega)).mono ?_
    rintro e v5 hcase
    obtain ⟨_, rfl, hb1⟩ := hcase.resolve_left (fun h => hr h.1)
    obtain ⟨x_d, pa, hb⟩ := mv3 hb1 x_d pa hb
    clear hb1
    replace q_d := x_d.al
    go_wp2
    go_ret
    exact ⟨rfl, hb⟩
  go_wp2_with fail
  with_reducible refine (MDet_any (J := 1) pa.md (by omega) (by omega) (by omega)).mono ?_
  rintro e v3 ⟨hb1, hcase⟩
  obtain ⟨pa, hb⟩ := mv2 hb1 pa hb
  clear hb1
  obtain ⟨_, Ad, kd, cd, rfl, zd⟩ := hcase.resolve_left (fun h => h.1 hr)
  have hn0 := hr.2.1
  have HR := Lib.hid hr; clear hr hcase
  obtain ⟨D, hD⟩ : ∃ D, MD.det na (mx MA) = D := ⟨_, rfl⟩
  rw [hD] at zd ⊢
  have HD := Lib.hid hD; clear hD
  replace zd := zd.wide (show kb 1 na ≤ 200 by omega)
  go_wp2_with fail
  refine al1c fun v4 hb1 x_d => ?_
  replace x_d := Bx.of x_d
  obtain ⟨pa, zd, hb⟩ := mv3 hb1 pa zd hb
  clear hb1
  have q_d := x_d.al
  with_reducible refine (MAdjugate_any (J := 1) (KM := 190) pa.md (by omega) (by omega) hk6 (by omega)).mono ?_
  rintro e v5 hcase
  obtain ⟨_, Ax, nx, cx, rfl, px, hb1⟩ := hcase.resolve_right (fun h => h.1 HR.out)
  obtain ⟨x_d, pa, zd, hb⟩ := mv4 hb1 x_d pa zd hb
  clear hb1
  replace q_d := x_d.al
  obtain rfl : na = nx := (mo2_len _ _ _).symm.trans px.len
  clear hcase
  obtain ⟨LX, hLX⟩ : ∃ L, mo2 (adjF (na - 1) (mx MA)) na na = L := ⟨_, rfl⟩
  rw [hLX] at px
  have HRX : Hid (Rt LX na na) := Lib.hid (hLX ▸ mo2_rt hn0 hn0)
  have HLX := Lib.hid hLX; clear hLX
  go_wp2_with fail
  with_reducible refine (MMul_any (J := 1) (J2 := 190) pa.md px.md (by omega) (by omega) (fun q2 h => by have := (h.uni HRX.out).2; omega) (by omega)).mono ?_
  rintro e v6 hcase
  obtain ⟨q3, hr3, hr4, Am, nm, cm, rfl, pm, hb1⟩ := hcase.resolve_right (fun h => h.1 _ ⟨HR.out, HRX.out⟩)
  obtain rfl : na = q3 := (hr4.uni HRX.out).2.symm
  clear hr3 hr4 hcase
  obtain ⟨x_d, pa, zd, px, hb⟩ := mv5 hb1 x_d pa zd px hb
  clear hb1
  replace q_d := x_d.al
  obtain rfl : na = nm := (mo2_len _ _ _).symm.trans pm.len
  replace pm := pm.kto (show 1 + 190 + na ≤ 207 by omega)
  obtain ⟨LM, hLM⟩ : ∃ L, mo2 (MD.mul na (mx MA) (mx LX)) na na = L := ⟨_, rfl⟩
  rw [hLM] at pm
  have HLMD : Hid (dg2 na D = LM) := Lib.hid (HD.out ▸ adj_r hn0 HLX.out hLM)
  have HLM := Lib.hid hLM; clear hLM
  clear HLM
  go_wp2_with fail
  with_reducible refine (MMul_any (J := 190) (J2 := 1) px.md pa.md (by omega) (by omega) (fun q2 h => by have := (h.uni HR.out).2; omega) (by omega)).mono ?_
  rintro e v7 hcase
  obtain ⟨q3, hr3, hr4, An, nn, cn, rfl, pn, hb1⟩ := hcase.resolve_right (fun h => h.1 _ ⟨HRX.out, HR.out⟩)
  obtain rfl : na = q3 := (hr4.uni HR.out).2.symm
  clear hr3 hr4 hcase
  obtain ⟨x_d, pa, zd, px, pm, hb⟩ := mv6 hb1 x_d pa zd px pm hb
  clear hb1
  replace q_d := x_d.al
  obtain rfl : na = nn := (mo2_len _ _ _).symm.trans pn.len
  replace pn := pn.kto (show 190 + 1 + na ≤ 207 by omega)
  obtain ⟨LN, hLN⟩ : ∃ L, mo2 (MD.mul na (mx LX) (mx MA)) na na = L := ⟨_, rfl⟩
  rw [hLN] at pn
  have HLND : Hid (dg2 na D = LN) := Lib.hid (HD.out ▸ adj_l hn0 HLX.out hLN)
  have HLN := Lib.hid hLN; clear hLN
  clear HLN
  go_wp2_with fail
  with_reducible refine (LMsame_any pm pn).mono ?_
  rintro e v8 ⟨rfl, hb1⟩
  obtain ⟨x_d, pa, zd, px, pm, pn, hb⟩ := mv7 hb1 x_d pa zd px pm pn hb
  clear hb1
  replace q_d := x_d.al
  rw [show decide (LM = LN) = true from decide_eq_true (HLMD.out.symm.trans HLND.out)]
  clear px pn pa
  clear HLX HRX HLND HR Ra HD
  have HRM : Hid (Rt LM na na) := Lib.hid (HLMD.out ▸ mo2_rt hn0 hn0)
  have hr0 : AjL w v3.heap.size na cm Am Ad kd cd D LM v8 := ⟨x_d, zd, pm, hb⟩
  clear zd pm hb x_d q_d
  go_wp2_with fail
  go_loopw [12] (fun kv wr => ∃ i : Nat, i ≤ na ∧ kv = .int .i64 (i : Int) ∧ AjL w v3.heap.size na cm Am Ad kd cd D LM wr) (fun kv _ => na - (intOf kv).toNat)
  case atStart => exact ⟨0, by omega, rfl, hr0⟩
  case round =>
    clear hr0
    obtain ⟨i, hi, rfl, x_d, zd, pm, hb⟩ := hrel
    rcases (show na = i ∨ i < na by omega) with hin | hin
    · subst hin; go_wp2; go_ret; exact ⟨rfl, hb⟩
    obtain ⟨d5, o5, A5, n5, c5, rfl, x_e, ze⟩ := pm.row (k := i) hin
    obtain rfl : na = n5 := (HRM.out.row_len hin).symm.trans ze.len
    have q_e := x_e.al
    have hil : i < LM.length := by rw [HRM.out.1]; exact hin
    have HE : Hid (∀ k (hk : k < LM[i].length), LM[i][k] = if i = k then D else 0) := Lib.hid fun k hk => dg2_at HLMD.out hil hk
    generalize LM[i] = R at ze HE
    have hr1 : Vc wr d5 (o5 + i) (.slice A5 na c5) ∧ Pn wr A5 na c5 R 207 ∧ AjL w v3.heap.size na cm (some ⟨d5, o5, none⟩) Ad kd cd D LM wr := ⟨x_e, ze, x_d, zd, pm, hb⟩
    have HZL := Lib.hid ze.len
    go_wp2_with fail
    go_loopw [13] (fun kv wr => ∃ k : Nat, k ≤ na ∧ kv = .int .i64 (k : Int) ∧ Vc wr d5 (o5 + i) (.slice A5 na c5) ∧ Pn wr A5 na c5 R 207 ∧ AjL w v3.heap.size na cm (some ⟨d5, o5, none⟩) Ad kd cd D LM wr) (fun kv _ => na - (intOf kv).toNat)
    case atStart => exact ⟨0, by omega, rfl, hr1⟩
    case round =>
      clear hr1 x_e ze x_d zd pm hb q_e
      obtain ⟨k, hk, rfl, x_e, ze, x_d, zd, pm, hb⟩ := hrel
      rcases (show na = k ∨ k < na by omega) with hkn | hkn
      · skip
        subst hkn
        go_wp2_with fail
        exact ⟨⟨i + 1, by omega, by go_num, x_d, zd, pm, hb⟩, by simp [intOf]; omega⟩
      obtain ⟨d6, o6, A6, n6, c6, rfl, x_f, zf⟩ := ze.ec (k := k) hkn
      have hY := HE.out k (by have := HZL.out; omega)
      generalize R[k]'(by have := HZL.out; omega) = Y at hY x_f zf
      have q_d := x_d.al
      have q_e := x_e.al
      have q_f := x_f.al
      by_cases hik : i = k
      · skip
        rw [if_pos hik] at hY
        obtain rfl : D = Y := hY.symm
        subst hik
        go_upto_region 22 with fail
        refine al1 fun vA hb1 x_t => ?_
        replace x_t := Bx.of x_t
        have x_d2 := x_d.keep hb1
        have q_d2 := x_d2.al
        have q_t := x_t.al
        go_upto_region 23 with fail
        refine x_t.st fun vB hs hx => ?_
        have hb2 : Below wr.heap.size wr vB := Ms.ms hs (by omega) hb1
        replace x_t := hx
        clear q_d2 x_d2 q_t hs hb1
        obtain ⟨x_d, x_e, x_f, zd, pm, ze, zf, hb⟩ := mv8 hb2 x_d x_e x_f zd pm ze zf hb
        clear hb2
        replace q_d := x_d.al
        replace q_e := x_e.al
        replace q_f := x_f.al
        have q_t := x_t.al
        go_region_held3 (fun w' => w'.cell? ⟨d5, o5 + i, none⟩ = some (.slice (some ⟨d6, o6, none⟩) na c5) ∧ w'.cell? ⟨d6, o6 + i * 2, none⟩ = some (.bool (ngB D)) ∧ w'.cell? ⟨d6, o6 + i * 2 + 1, none⟩ = some (.slice A6 n6 c6) ∧ w'.cell? ⟨wr.heap.size, 0, none⟩ = some (.bool (ngB D)) ∧ w'.cell? ⟨wr.heap.size, 1, none⟩ = some (.slice Ad kd cd))
          (first | (with_reducible exact ⟨x_e.c0, x_f.c0, x_f.c1, x_t.c0, x_t.c1⟩) | go_keep)
          (first | (go_at_call 11; (with_reducible refine (RExact_any zf.drw zd.drw).mono ?_); rintro e v9 ⟨rfl, hb1⟩; replace hb1 := undrew hb1; obtain ⟨x_d, x_e, x_f, x_t, zd, pm, ze, zf, hb⟩ := mv9 hb1 x_d x_e x_f x_t zd pm ze zf hb; clear hb1; replace q_d := x_d.al; replace q_e := x_e.al; replace q_f := x_f.al; replace q_t := x_t.al; rw [show decide (D = D) = true from decide_eq_true (rfl)]))
        go_wp2_with fail
        exact ⟨⟨i + 1, by omega, by go_num, x_e, ze, x_d, zd, pm, hb⟩, by simp [intOf]; omega⟩
      · skip
        rw [if_neg hik] at hY
        subst hY
        have hik2 : ((i : Int) == (k : Int)) = false := by simp; omega
        go_upto_region 23 with fail
        refine al1 fun v9 hb1 x_t => ?_
        replace x_t := Bx.of x_t
        obtain ⟨x_d, x_e, x_f, zd, pm, ze, zf, hb⟩ := mv8 hb1 x_d x_e x_f zd pm ze zf hb
        clear hb1
        replace q_d := x_d.al
        replace q_e := x_e.al
        replace q_f := x_f.al
        have q_t := x_t.al
        replace x_t : Bx v9 wr.heap.size (ngB 0) none 0 0 := x_t
        replace q_t := x_t.al
        go_region_held3 (fun w' => w'.cell? ⟨d5, o5 + i, none⟩ = some (.slice (some ⟨d6, o6, none⟩) na c5) ∧ w'.cell? ⟨d6, o6 + k * 2, none⟩ = some (.bool (ngB 0)) ∧ w'.cell? ⟨d6, o6 + k * 2 + 1, none⟩ = some (.slice A6 n6 c6) ∧ w'.cell? ⟨wr.heap.size, 0, none⟩ = some (.bool (ngB 0)) ∧ w'.cell? ⟨wr.heap.size, 1, none⟩ = some (.slice none 0 0))
          (first | (with_reducible exact ⟨x_e.c0, x_f.c0, x_f.c1, x_t.c0, x_t.c1⟩) | go_keep)
          (first | (go_at_call 11; (with_reducible refine (RExact_any zf.drw (Zn.zero _ 207)).mono ?_); rintro e v10 ⟨rfl, hb1⟩; replace hb1 := undrew hb1; obtain ⟨x_d, x_e, x_f, x_t, zd, pm, ze, zf, hb⟩ := mv9 hb1 x_d x_e x_f x_t zd pm ze zf hb; clear hb1; replace q_d := x_d.al; replace q_e := x_e.al; replace q_f := x_f.al; replace q_t := x_t.al; rw [show decide ((0 : Int) = 0) = true from decide_eq_true (rfl)]))
        go_wp2_with fail
        exact ⟨⟨k + 1, by omega, by go_num, x_e, ze, x_d, zd, pm, hb⟩, by simp [intOf]; omega⟩
end Go.Proofs.Ytbpamkpclofnbaa
