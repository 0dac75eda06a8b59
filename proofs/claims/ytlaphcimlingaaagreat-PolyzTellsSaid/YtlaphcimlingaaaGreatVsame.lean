/-
  polyz: Same.
-/
import Derived.Test.YtlaphcimlingaaaGreatVref
namespace Go.Proofs.YtlaphcimlingaaaGreat
open Go.RowKit
open MP.Se (nf co)
set_option linter.unusedVariables false
set_option maxRecDepth 100000

theorem PSame_any {A A2 : Option Addr} {n c n2 c2 J J2 : Nat} {l l2 : List Int} {w : World} (h : Pd w w.heap.size A n c l J) (h2 : Pd w w.heap.size A2 n2 c2 l2 J2) (hJ : J ≤ 1000000) (hJ2 : J2 ≤ 1000000) :
    Calls Tryz.prog 20 #[.slice A n c, .slice A2 n2 c2] w fun e w' => e = .returned (.bool (decide (nf l = nf l2))) ∧ Below w.heap.size w w' := by
  obtain ⟨L, hL⟩ : ∃ L, nf l = L := ⟨_, rfl⟩
  obtain ⟨M, hM⟩ : ∃ M, nf l2 = M := ⟨_, rfl⟩
  rw [hL, hM]
  have HL := Lib.hid hL; have HM := Lib.hid hM
  obtain ⟨β, hβ⟩ : ∃ β, decide (L = M) = β := ⟨_, rfl⟩
  rw [hβ]
  have HB := Lib.hid hβ
  replace h := h.pe; replace h2 := h2.pe
  clear hL hM hβ
  go_enter Tryz.func20, Tryz.ntmps20
  go_wp2_with fail
  with_reducible refine (Ptrim_any h.pd hJ).mono ?_
  rintro e v1 ⟨A3, m, c3, rfl, hm, ht, hb⟩
  obtain ⟨h, h2⟩ := mv2 hb h h2
  have p : Pe v1 w.heap.size A3 m c3 (nf l) J := ⟨h.1, h.2.trim hm ht⟩
  rw [HL.out] at p hm
  clear h ht
  have HN := Lib.hid hm; clear hm
  go_wp2_with fail
  with_reducible refine (Ptrim_any h2.pd hJ2).mono ?_
  rintro e v2 ⟨A4, m2, c4, rfl, hm, ht, hb1⟩
  obtain ⟨h2, p, hb⟩ := mv3 hb1 h2 p hb
  have p2 : Pe v2 w.heap.size A4 m2 c4 (nf l2) J2 := ⟨h2.1, h2.2.trim hm ht⟩
  rw [HM.out] at p2 hm
  clear h2 ht hb1
  have HN2 := Lib.hid hm; clear hm
  have hbg := p.big; have hbg2 := p2.big
  by_cases hn : m = m2
  · subst hn
    have hend : Hid (L = M → β = true) := Lib.hid fun h => by rw [← HB.out, decide_eq_true_eq]; exact h
    have hne : Hid (∀ i (h1 : i < L.length) (h2 : i < M.length), L[i] ≠ M[i] → β = false) := Lib.hid fun i h1 h2 h => by
      rw [← HB.out, decide_eq_false_iff_not]; intro e; subst e; exact h rfl
    go_wp2_with fail
    go_loopw [17] (fun kv wr => ∃ i : Nat, i ≤ m ∧ kv = .int .i64 (i : Int) ∧ Hid (∀ j (h1 : j < L.length) (h2 : j < M.length), j < i → L[j] = M[j]) ∧ Pe wr w.heap.size A3 m c3 L J ∧ Pe wr w.heap.size A4 m c4 M J2 ∧ Below w.heap.size w wr) (fun kv _ => m - (intOf kv).toNat)
    case atStart => exact ⟨0, by omega, rfl, Lib.hid fun _ _ _ h => absurd h (by omega), p, p2, hb⟩
    case round =>
      clear p p2 hb
      obtain ⟨i, hi, rfl, heq, p, p2, hb⟩ := hrel
      rcases (show m = i ∨ i < m by omega) with hin | hin
      · subst hin
        have hte : Hid (β = true) := Lib.hid (hend.out (List.ext_getElem (HN.out.symm.trans HN2.out) fun j h1 h2 => heq.out j h1 h2 (by have := HN.out; omega)))
        clear heq
        go_wp2
        go_ret
        exact ⟨by rw [hte.out]; rfl, hb⟩
      · have hi1 : i < L.length := by have := HN.out; omega
        have hi2 : i < M.length := by have := HN2.out; omega
        obtain ⟨d, o, b5, A5, n5, c5, e5, _, x_e, z⟩ := p.ec hin
        obtain ⟨d2, o2, b6, A6, n6, c6, e6, _, x_f, z2⟩ := p2.ec hin
        subst e5; subst e6
        have HNX := Lib.hid (hne.out i hi1 hi2)
        have hnxt : Hid (L[i] = M[i] → ∀ j (h1 : j < L.length) (h2 : j < M.length), j < i + 1 → L[j] = M[j]) := Lib.hid fun e j h1 h2 hj => by
          rcases (show j < i ∨ j = i by omega) with h | h
          · exact heq.out j h1 h2 h
          · subst h; exact e
        clear heq
        generalize L[i] = x at *
        generalize M[i] = y at *
        have q_e := x_e.al; have q_f := x_f.al
        go_upto_region 7 with fail
        go_region_held3 (fun w' => w'.cell? ⟨d, o + i * 2, none⟩ = some (.bool b5) ∧ w'.cell? ⟨d, o + i * 2 + 1, none⟩ = some (.slice A5 n5 c5) ∧ w'.cell? ⟨d2, o2 + i * 2, none⟩ = some (.bool b6) ∧ w'.cell? ⟨d2, o2 + i * 2 + 1, none⟩ = some (.slice A6 n6 c6))
          (first | (with_reducible exact ⟨x_e.c0, x_e.c1, x_f.c0, x_f.c1⟩) | go_keep)
          (first | (go_at_call 86; (with_reducible refine (ZSame_any z.drw z2.drw hJ hJ2).mono ?_); rintro e v3 ⟨rfl, hb1⟩; replace hb1 := undrew hb1; obtain ⟨x_e, x_f, p, p2, hb⟩ := mv5 hb1 x_e x_f p p2 hb; clear hb1; replace q_e := x_e.al; replace q_f := x_f.al))
        by_cases hxy : x = y
        · have hq := Lib.hid (hnxt.out hxy)
          rw [eqB_of hxy]
          clear hnxt HNX x_e x_f q_e q_f z z2 hxy
          go_wp2
          exact ⟨⟨i + 1, by omega, by go_num, hq, p, p2, hb⟩, by simp [intOf]; omega⟩
        · have hf : Hid (β = false) := Lib.hid (HNX.out hxy)
          rw [show eqB x y = false by simp [eqB, hxy]]
          clear hnxt HNX x_e x_f q_e q_f z z2 hxy
          go_wp2
          go_ret
          exact ⟨by rw [hf.out]; rfl, hb⟩
  · have hf : Hid (β = false) := Lib.hid (by rw [← HB.out, decide_eq_false_iff_not]; intro e; subst e; exact hn (HN.out.trans HN2.out.symm))
    have hnn : ((m : Int) == m2) = false := by simp; omega
    go_wp2
    go_ret
    exact ⟨by rw [hf.out]; rfl, hb⟩
end Go.Proofs.YtlaphcimlingaaaGreat
