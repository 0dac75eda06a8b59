/-
  the document: Add.
-/
import Derived.Test.YtlaphcimlingaaaGreatVRn
namespace Go.Proofs.YtlaphcimlingaaaGreat
open Go.RowKit
open MP.Se (nf co)
set_option linter.unusedVariables false
set_option maxRecDepth 100000

theorem DoAdd_any {A A2 : Option Addr} {n c n2 c2 J : Nat} {l l2 : List Int} {w : World} (h : Pd w w.heap.size A n c l J) (h2 : Pd w w.heap.size A2 n2 c2 l2 J) (hJ : J ≤ 90000) (hn : n ≤ 1000) (hn2 : n2 ≤ 1000) :
    Calls Tryz.prog 25 #[.slice A n c, .slice A2 n2 c2] w (OutN w (co l + co l2) (J + 1)) := by
  have hl := h.len; have hl2 := h2.len
  obtain ⟨T, hT⟩ : ∃ T, (if n < n2 then n2 else n) = T := ⟨_, rfl⟩
  have hT1 : (n < n2 ∧ T = n2) ∨ (n2 ≤ n ∧ T = n) := by split at hT <;> omega
  have hTm : T ≤ 1000 := by omega
  obtain ⟨s, hs⟩ : ∃ s, co l + co l2 = s := ⟨_, rfl⟩
  have HB : Hid (MP.Se.Bd s T) := Lib.hid (by rw [← hs]; exact ((MP.Se.co_bd l).le (by omega)).add ((MP.Se.co_bd l2).le (by omega)))
  have HS : Hid (∀ i, (co l) i + (co l2) i = s i) := Lib.hid fun i => by rw [← hs]; rfl
  rw [hs]
  have H := Lib.hid h.pe; have H2 := Lib.hid h2.pe; have HT := Lib.hid hT1
  clear hl hl2 hs h h2 hT hT1
  go_enter Tryz.func25, Tryz.ntmps25
  go_upto_region 2 with fail
  refine al1 fun v1 hb x_o => ?_
  have gz : Gz v1 w.heap.size (J + 1) (.slice (some ⟨w.heap.size, 0, none⟩) 0 0) (MP.Se.ls 0 s) := gz_new x_o (Nat.le_refl _)
  clear x_o
  go_wp2_with fail
  go_loopw [5, 6] (fun sv kv wr => ∃ i : Nat, i ≤ T ∧ kv = .int .i64 (i : Int) ∧ Gz wr w.heap.size (J + 1) sv (MP.Se.ls i s) ∧ Below w.heap.size w wr) (fun _ kv _ => T - (intOf kv).toNat)
  case atStart => exact ⟨0, by omega, rfl, gz, hb⟩
  case round =>
    clear gz hb
    obtain ⟨i, hi, rfl, gz, hb⟩ := hrel
    have htk : Hid (MP.Se.ls i s ++ [s i] = MP.Se.ls (i + 1) s) := Lib.hid (MP.Se.ls_succ i s).symm
    have hln : (MP.Se.ls i s).length ≤ 1000 := by rw [MP.Se.len_ls]; omega
    have hsi : Hid ((co l) i + (co l2) i = s i) := Lib.hid (HS.out i)
    rcases HT.out with ⟨hle, rfl⟩ | ⟨hle, rfl⟩ <;> (
      rcases (show T = i ∨ i < T by omega) with hin | hin
      · subst hin
        obtain ⟨A5, c5, rfl, p⟩ := gz.pn (by omega)
        rw [MP.Se.len_ls] at p
        rw [MP.Se.len_ls]
        clear gz htk hsi
        go_wp2_with fail
        with_reducible refine (DoNorm_any p.pd (by omega) (by omega)).mono ?_
        rintro e v2 ⟨L, A6, n6, c6, rfl, hN, hL, p6, hb1⟩
        have hL2 := Lib.hid (hL.trans (MP.Se.co_ls HB.out))
        replace hb := bthen hb hb1
        clear hL p hb1
        go_wp2
        go_ret
        exact ⟨L, _, _, _, rfl, hN, hL2.out, p6, hb⟩
      · have c1 := RAt_any (H.out.keep hb).pd i (by omega)
        generalize (co l) i = X at *
        go_wp2_with fail
        with_reducible refine c1.mono ?_
        rintro e v3 ⟨A3, n3, c3, rfl, z, hb1⟩
        replace gz := gz.keep hb1
        replace hb := bthen hb hb1
        clear hb1 c1
        have c2 := RAt_any (H2.out.keep hb).pd i (by omega)
        generalize (co l2) i = Y at *
        go_wp2_with fail
        with_reducible refine c2.mono ?_
        rintro e v4 ⟨A4, n4, c4, rfl, z2, hb1⟩
        obtain ⟨z, hb⟩ := mv2 hb1 z hb
        replace gz := gz.keep hb1
        clear hb1 c2
        go_wp2_with fail
        with_reducible refine (RAddZ_any z.zr z2.zr (J + 1) (by omega) (by omega) (by omega)).mono ?_
        rintro e v5 ⟨A5, n5, c5, rfl, z3, hb1⟩
        replace gz := gz.keep hb1
        replace hb := bthen hb hb1
        rw [hsi.out] at z3 ⊢
        have hs := hb.size
        clear hb1 z z2 hsi
        generalize MP.Se.ls i s = m at *
        generalize s i = Z at *
        go_wp2_with (at_builtin; refine wp_pushG (V := v5) rfl _ _ rfl rfl gz hln hs z3 rfl ?_; intro s' w' hpu)
        have hgz := hpu.1
        rw [htk.out] at hgz
        have hb2 := Gr.below hb hs gz hpu.2.1 (Nat.le_refl _)
        exact ⟨⟨i + 1, by omega, by go_num, hgz, hb2⟩, by simp [intOf]; omega⟩)
end Go.Proofs.YtlaphcimlingaaaGreat
