/-
  the document: zero, Degree, At.
-/
import Derived.Test.YtlaphcimlingaaaGreatVref
namespace Go.Proofs.YtlaphcimlingaaaGreat
open Go.RowKit
open MP.Se (nf co)
set_option linter.unusedVariables false
set_option maxRecDepth 100000

theorem Rzero_any {b : Bool} {A : Option Addr} {n c j : Nat} {X : Int} {w : World} (z : Zr w b A n c X j) (hj : j ≤ 100000) :
    Calls Tryz.prog 87 #[.agg #[.bool b, .slice A n c]] w fun e w' => e = .returned (.bool (eqB X 0)) ∧ Below w.heap.size w w' := by
  obtain ⟨β, hβ⟩ : ∃ β, eqB X 0 = β := ⟨_, rfl⟩
  rw [hβ]
  have HB : Hid (decide (sgnI X = 0) = β) := Lib.hid (by rw [← hβ, eqB, decide_eq_decide]; exact sgnI_eq0)
  clear hβ
  go_enter Tryz.func87, Tryz.ntmps87
  go_wp2_with fail
  refine al1c fun v1 hb x_x => ?_
  replace x_x := Bx.of x_x
  replace z := Mv.mv z hb
  have q_x := x_x.al
  go_wp2_with fail
  with_reducible refine (RSignZ_any z hj).mono ?_
  rintro e v2 ⟨rfl, hb1⟩
  obtain ⟨x_x, z, hb⟩ := mv3 hb1 x_x z hb
  clear hb1
  replace q_x := x_x.al
  have HB2 : Hid ((sgnI X == 0) = β) := Lib.hid (by rw [← HB.out]; rfl)
  generalize sgnI X = S at *
  go_wp2
  go_ret
  exact ⟨by rw [← HB2.out]; rfl, hb⟩
theorem RDegree_any {A : Option Addr} {n c J : Nat} {l : List Int} {w : World} (h : Pd w w.heap.size A n c l J) (hJ : J ≤ 100000) :
    Calls Tryz.prog 23 #[.slice A n c] w fun e w' => e = .returned (.int .i64 (((nf l).length : Int) - 1)) ∧ Below w.heap.size w w' := by
  have hl := h.len
  have hbig := h.big
  have hcap := h.cap
  have hr0 : Hid (nf l = nf (l.take ((n : Int) - 1 + 1).toNat)) := Lib.hid (by rw [show ((n : Int) - 1 + 1).toNat = l.length by omega, List.take_length])
  obtain ⟨M, hM⟩ : ∃ M : Int, ((nf l).length : Int) - 1 = M := ⟨_, rfl⟩
  rw [hM]
  have HM := Lib.hid hM; clear hM
  have HP := Lib.hid h
  have HL := Lib.hid hl; clear hl h
  go_enter Tryz.func23, Tryz.ntmps23
  go_wp2_with fail
  go_loopw [3] (fun kv wr => ∃ i : Int, -1 ≤ i ∧ i < n ∧ kv = .int .i64 i ∧ Hid (nf l = nf (l.take (i + 1).toNat)) ∧ Below w.heap.size w wr) (fun kv _ => (intOf kv + 1).toNat)
  case atStart => exact ⟨(n : Int) - 1, by omega, by omega, by go_num, hr0, Below.refl _ _⟩
  case round =>
    clear hr0
    obtain ⟨i, hi0, hi, rfl, hr, hb⟩ := hrel
    rcases (show i = -1 ∨ 0 ≤ i by omega) with h0 | h0
    · subst h0
      have hm : Hid (M = -1) := Lib.hid (by rw [← HM.out, hr.out]; rfl)
      clear hr
      go_wp2
      go_ret
      exact ⟨by rw [hm.out]; rfl, hb⟩
    · obtain ⟨k, rfl⟩ : ∃ k : Nat, i = k := ⟨i.toNat, by omega⟩
      have hkn : k < n := by omega
      have hkl : k < l.length := by have := HL.out; omega
      have hr : nf l = nf (l.take (k + 1)) := hr.out
      obtain ⟨d, o, b, A', n', c', rfl, hd, h1, h2, z⟩ := (HP.out.keep (Nat.le_refl _) hb).cells (k := k) hkn
      have hz : Hid (l[k] = 0 → nf l = nf (l.take k)) := Lib.hid fun e => hr.trans (MP.Se.nf_le_take l k hkl e)
      have hz2 : Hid (l[k] ≠ 0 → M = k) := Lib.hid fun e => by
        rw [← HM.out, hr, MP.Se.nf_take_ne l k hkl e]; simp; omega
      clear hr
      generalize l[k] = X at *
      go_wp2_with fail
      with_reducible refine (Rzero_any z hJ).mono ?_
      rintro e v2 ⟨rfl, hb1⟩
      replace hb := bthen hb hb1
      rcases Classical.em (X = 0) with hX | hX
      · have hz1 := Lib.hid (hz.out hX)
        rw [eqB_of hX]
        clear hz hz2 z h1 h2 hb1 hX
        go_wp2_with fail
        refine ⟨⟨(k : Int) - 1, by omega, by omega, by go_num, Lib.hid (by rw [show ((k : Int) - 1 + 1).toNat = k by omega]; exact hz1.out), hb⟩, by simp [intOf]⟩
      · have hm := Lib.hid (hz2.out hX)
        rw [show eqB X 0 = false by simp [eqB, hX]]
        clear hz hz2 z h1 h2 hb1 hX
        go_wp2
        go_ret
        exact ⟨by rw [hm.out]; rfl, hb⟩
theorem RAt_any {A : Option Addr} {n c J : Nat} {l : List Int} {w : World} (h : Pd w w.heap.size A n c l J) (i : Nat) (hJ : J ≤ 1000000) :
    Calls Tryz.prog 84 #[.slice A n c, .int .i64 (i : Int)] w (OutZ w ((co l) i) J) := by
  have hl := h.len
  have hbig := h.big
  have hcap := h.cap
  have hb := Below.refl w.heap.size w
  by_cases hi : i < n
  · obtain ⟨d, o, b, A', n', c', rfl, hd, x_e, ze⟩ := h.pe.ec hi
    rw [← MP.Se.co_at (show i < l.length by omega)] at ze
    generalize (co l) i = X at *
    clear h
    go_enter Tryz.func84, Tryz.ntmps84
    go_upto_region 1 with fail
    have l_e_r := x_e.lt
    have e_r : w.heap.size ≤ w.heap.size := hb.size
    refine al1 fun v1 hb1 x_r => ?_
    replace x_r := Bx.of x_r
    obtain ⟨x_e, ze, hb⟩ := mv3 hb1 x_e ze hb
    clear hb1
    have q_e := x_e.al
    have q_r := x_r.al
    go_wp2_with fail
    with_reducible refine (RNormZ_any ze J (Nat.le_refl _) hJ).mono ?_
    rintro e v2 ⟨A5, n5, c5, rfl, z5, hb1⟩
    obtain ⟨x_e, x_r, ze, hb⟩ := mv4 hb1 x_e x_r ze hb
    clear hb1
    replace q_e := x_e.al
    replace q_r := x_r.al
    go_wp2
    clear q_e q_r
    refine x_r.st fun v3 hs hx => ?_
    obtain ⟨x_e, ze, z5, hb⟩ := ms4 hs ⟨by omega, trivial, trivial, by omega⟩ x_e ze z5 hb
    replace x_r := hx; clear hx hs
    have q_e := x_e.al
    have q_r := x_r.al
    skip
    refine bodyPost_ret (v := .agg #[.bool (ngB X), .slice A5 n5 c5]) (by simp [results, Tryz.results84, go_sem, q_r]) rfl ?_
    exact ⟨_, _, _, rfl, z5, hb⟩
  · have h0 : (co l) i = 0 := MP.Se.co_bd l i (by omega)
    rw [h0]
    have z5 := Zn.zero w J
    clear h h0
    go_enter Tryz.func84, Tryz.ntmps84
    go_upto_region 1 with fail
    have e_r : w.heap.size ≤ w.heap.size := hb.size
    refine al1 fun v1 hb1 x_r => ?_
    replace x_r := Bx.of x_r
    obtain ⟨z5, hb⟩ := mv2 hb1 z5 hb
    clear hb1
    have q_r := x_r.al
    go_wp2
    clear q_r
    refine x_r.st fun v2 hs hx => ?_
    obtain ⟨z5, hb⟩ := ms2 hs ⟨trivial, by omega⟩ z5 hb
    replace x_r := hx; clear hx hs
    have q_r := x_r.al
    skip
    refine bodyPost_ret (v := .agg #[.bool false, .slice none 0 0]) (by simp [results, Tryz.results84, go_sem, q_r]) rfl ?_
    exact ⟨_, _, _, rfl, z5, hb⟩
end Go.Proofs.YtlaphcimlingaaaGreat
