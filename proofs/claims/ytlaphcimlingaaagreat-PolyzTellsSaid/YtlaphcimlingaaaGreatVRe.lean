/-
  the document: Derive.
-/
import Derived.Test.YtlaphcimlingaaaGreatVRt
namespace Go.Proofs.YtlaphcimlingaaaGreat
open Go.RowKit
open MP.Se (nf co)
set_option linter.unusedVariables false
set_option maxRecDepth 100000

theorem DoDerive_any {A : Option Addr} {n c J : Nat} {l : List Int} {w : World} (h : Pd w w.heap.size A n c l J) (hJ : J ≤ 90000) (hn : n ≤ 1000) :
    Calls Tryz.prog 33 #[.slice A n c] w (OutN w (MP.Se.dr (co l)) (J + 1)) := by
  have hl := h.len
  have hle := MP.Se.nf_len l
  obtain ⟨M, hM⟩ : ∃ M, (nf l).length = M := ⟨_, rfl⟩
  obtain ⟨T, hT⟩ : ∃ T, M - 1 = T := ⟨_, rfl⟩
  obtain ⟨s, hs⟩ : ∃ s, MP.Se.dr (co l) = s := ⟨_, rfl⟩
  have hTn : T < n ∨ T = 0 := by omega
  have hTn2 : T ≤ 1000 := by omega
  have HB : Hid (MP.Se.Bd s T) := Lib.hid (by rw [← hs, ← MP.Se.co_nf l, ← hT, ← hM]; exact MP.Se.Bd.dr (MP.Se.co_bd _))
  have HS : Hid (∀ i, ((i + 1 : Nat) : Int) * (co l) (i + 1) = s i) := Lib.hid fun i => by rw [← hs]; rfl
  rw [hs]
  have HL := Lib.hid hl; have HM := Lib.hid hM; have HT := Lib.hid hT
  have hMn : M ≤ n := by omega
  have hTM : (M = 0 ∧ T = 0) ∨ T + 1 = M := by omega
  have HTM := Lib.hid hTM
  replace h := h.pe
  have H := Lib.hid h
  clear hl hs hM hT hle h hTM
  go_enter Tryz.func33, Tryz.ntmps33
  go_upto_region 2 with fail
  refine al1 fun v1 hb x_o => ?_
  have gz : Gz v1 w.heap.size (J + 1) (.slice (some ⟨w.heap.size, 0, none⟩) 0 0) (MP.Se.ls 0 s) := gz_new x_o (Nat.le_refl _)
  clear x_o
  go_wp2_with fail
  go_loopw [3, 4] (fun sv kv wr => ∃ k i : Nat, k ≤ T ∧ i = k + 1 ∧ kv = .int .i64 (i : Int) ∧ Gz wr w.heap.size (J + 1) sv (MP.Se.ls k s) ∧ Below w.heap.size w wr) (fun _ kv _ => T + 1 - (intOf kv).toNat)
  case atStart => exact ⟨0, 1, by omega, rfl, rfl, gz, hb⟩
  case round =>
    clear gz hb
    obtain ⟨k, i, hk, hik, rfl, gz, hb⟩ := hrel
    have HIK := Lib.hid hik
    have htk : Hid (MP.Se.ls k s ++ [s k] = MP.Se.ls (k + 1) s) := Lib.hid (MP.Se.ls_succ k s).symm
    have hln : (MP.Se.ls k s).length ≤ 1000 := by rw [MP.Se.len_ls]; omega
    have hsi : Hid ((i : Int) * (co l) i = s k) := Lib.hid (by rw [hik]; exact HS.out k)
    go_wp2_with fail
    with_reducible refine (RDegree_any (H.out.keep hb).pd (by omega)).mono ?_
    rintro e v3 ⟨rfl, hb1⟩
    rw [HM.out]
    replace gz := gz.keep hb1
    replace hb := bthen hb hb1
    clear hb1
    rcases (show T = k ∨ k < T by omega) with hin | hin
    · subst hin
      have hend : ¬ ((i : Int) ≤ (M : Int) - 1) := by have := HTM.out; omega
      obtain ⟨A5, c5, rfl, p⟩ := gz.pn (by omega)
      rw [MP.Se.len_ls] at p
      rw [MP.Se.len_ls]
      clear gz htk hsi hik
      go_wp2_with fail
      with_reducible refine (DoNorm_any p.pd (by omega) (by omega)).mono ?_
      rintro e v4 ⟨L, A6, n6, c6, rfl, hN, hL, p6, hb1⟩
      have hL2 := Lib.hid (hL.trans (MP.Se.co_ls HB.out))
      replace hb := bthen hb hb1
      clear hL p hb1
      go_wp2
      go_ret
      exact ⟨L, _, _, _, rfl, hN, hL2.out, p6, hb⟩
    · have hgo : (i : Int) ≤ (M : Int) - 1 := by have := HTM.out; omega
      have hin2 : i < n := by omega
      obtain ⟨d, o, b5, A5, n5, c5, rfl, hd5, x_e, ze⟩ := (H.out.keep hb).ec hin2
      rw [← MP.Se.co_at (show i < l.length by rw [HL.out]; exact hin2)] at ze
      generalize (co l) i = Y at *
      have hss := hb.size
      have i1 : i ≤ 1000 := by omega
      generalize MP.Se.ls k s = m at *
      generalize s k = U at *
      have q_e := x_e.al
      have ne_e := gz.ne (k := d) (.inl hd5)
      have hv0 := Below.refl v3.heap.size v3
      clear hik
      go_upto_region 4 with fail
      go_region_held3 (fun w' => w'.cell? ⟨d, o + i * 2, none⟩ = some (.bool b5) ∧ w'.cell? ⟨d, o + i * 2 + 1, none⟩ = some (.slice A5 n5 c5))
        (first | (with_reducible exact ⟨x_e.c0, x_e.c1⟩) | go_keep)
        (first | (go_at_call 79; (with_reducible refine (ROf_any (i : Int) (by omega) (by omega)).mono ?_); rintro e v5 ⟨A8, n8, c8, rfl, z8, hb1⟩; replace hb1 := undrew hb1; replace hv0 := hb1; replace ze := ze.keep hb1; replace x_e := x_e.keep hb1; replace gz := gz.keep hb1; replace hb := bthen hb hb1; replace hss := hb.size; clear hb1; replace q_e := x_e.al) | (go_at_call 74; (with_reducible refine (RMulZ_any z8.zr ze (J + 1) (by omega) (by omega)).mono ?_); rintro e v6 ⟨A9, n9, c9, rfl, z9, hb1⟩; replace hv0 := bthen hv0 hb1; replace ze := ze.keep hb1; replace x_e := x_e.keep hb1; replace gz := gz.keep hb1; replace hb := bthen hb hb1; replace hss := hb.size; clear hb1; replace q_e := x_e.al; rw [hsi.out] at z9 ⊢) | (refine step_pushG (V := v6) (by rfl) _ _ (by rfl) (by rfl) gz hln hss z9 (by rfl) ?_; intro s8 w8 hpu; replace x_e := x_e.gr hpu.2.1 ne_e))
      all_goals
        have hgz := hpu.1
        rw [htk.out] at hgz
        have hb2 := Gr.below hb hss gz hpu.2.1 (Nat.le_refl _)
        clear q_e x_e gz hpu htk
        go_wp2_with fail
        exact ⟨⟨k + 1, i + 1, by omega, by rw [HIK.out], by go_num, hgz, hb2⟩, by have := HIK.out; simp [intOf]; omega⟩
end Go.Proofs.YtlaphcimlingaaaGreat
