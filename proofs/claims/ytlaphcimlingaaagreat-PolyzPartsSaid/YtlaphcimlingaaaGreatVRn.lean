/-
  the document: Norm.
-/
import Derived.Test.YtlaphcimlingaaaGreatVRd
namespace Go.Proofs.YtlaphcimlingaaaGreat
open Go.RowKit
open MP.Se (nf co)
set_option linter.unusedVariables false
set_option maxRecDepth 100000

/-- A list of the series s in normal form is handed back, in memory of the call's own. -/
def OutN (w : World) (s : MP.Se) (J : Nat) (e : Ending) (w' : World) : Prop := ∃ L A n c, e = .returned (.slice A n c) ∧ MP.Se.Nm L ∧ co L = s ∧ Pn w' A n c L J ∧ Below w.heap.size w w'
/-- An empty list of the call's own. -/
theorem gz_new {v : World} {B g J : Nat} (x : v.heap[g]? = some (.cells #[] 26 (0, 0))) (hB : B ≤ g) : Gz v B J (.slice (some ⟨g, 0, none⟩) 0 0) [] :=
  .inr ⟨_, 0, [], rfl, hB, ⟨#[], x, Nat.le_refl _, by unfold maxLen; omega, rfl, rfl, rfl, fun u hu => by cases hu⟩, rfl⟩
theorem DoNorm_any {A : Option Addr} {n c J : Nat} {l : List Int} {w : World} (h : Pd w w.heap.size A n c l J) (hJ : J ≤ 100000) (hn : n ≤ 1000) :
    Calls Tryz.prog 19 #[.slice A n c] w (OutN w (co l) J) := by
  have hl := h.len
  have hle := MP.Se.nf_len l
  obtain ⟨L, hL⟩ : ∃ L, nf l = L := ⟨_, rfl⟩
  obtain ⟨M, hM⟩ : ∃ M, L.length = M := ⟨_, rfl⟩
  have hMn : M ≤ 1000 := by rw [← hM, ← hL]; omega
  have HL := Lib.hid hL; have HM := Lib.hid hM
  have HX : Hid (∀ i (hi : i < L.length), L[i] = (co l) i) := Lib.hid fun i hi => by rw [← MP.Se.co_at hi, ← hL, MP.Se.co_nf]
  replace h := h.pe
  have H0 := Lib.hid h
  clear hL hM hle hl
  go_enter Tryz.func19, Tryz.ntmps19
  go_wp2_with fail
  with_reducible refine (RDegree_any h.pd hJ).mono ?_
  rintro e v1 ⟨rfl, hb⟩
  clear h
  rw [HL.out, show ((L.length : Int) - 1) = (M : Int) - 1 by rw [HM.out]]
  have hs1 := hb.size
  go_upto_region 3 with fail
  refine al1 fun v2 hb1 x_o => ?_
  have gz : Gz v2 w.heap.size J (.slice (some ⟨v1.heap.size, 0, none⟩) 0 0) (L.take 0) := gz_new x_o hs1
  replace hb := bthen hb hb1
  clear x_o hb1 hs1
  go_wp2_with fail
  go_loopw [4, 5] (fun sv kv wr => ∃ i : Nat, i ≤ M ∧ kv = .int .i64 (i : Int) ∧ Gz wr w.heap.size J sv (L.take i) ∧ Below w.heap.size w wr) (fun _ kv _ => M - (intOf kv).toNat)
  case atStart => exact ⟨0, by omega, rfl, gz, hb⟩
  case round =>
    clear gz hb
    obtain ⟨i, hi, rfl, gz, hb⟩ := hrel
    rcases (show M = i ∨ i < M by omega) with hin | hin
    · subst hin
      rw [List.take_of_length_le (by rw [HM.out]; omega)] at gz
      obtain ⟨A5, c5, rfl, p⟩ := gz.pn (by rw [HM.out]; omega)
      rw [HM.out] at p
      rw [HM.out]
      clear gz
      go_wp2
      go_ret
      exact ⟨L, _, _, _, rfl, by rw [← HL.out]; exact MP.Se.nm_nf _, by rw [← HL.out]; exact MP.Se.co_nf _, p, hb⟩
    · have hil : i < L.length := by rw [HM.out]; exact hin
      have htk : Hid (L.take i ++ [(co l) i] = L.take (i + 1)) := Lib.hid (by rw [List.take_add_one, List.getElem?_eq_getElem hil, HX.out i hil]; rfl)
      have hln : (L.take i).length ≤ 1000 := by rw [List.length_take]; omega
      have c := RAt_any (H0.out.keep hb).pd i (by omega)
      generalize (co l) i = X at *
      generalize L.take i = m at *
      go_wp2_with fail
      with_reducible refine c.mono ?_
      rintro e v3 ⟨A2, n2, c2, rfl, z, hb1⟩
      replace gz := gz.keep hb1
      replace hb := bthen hb hb1
      have hs := hb.size
      clear hb1
      go_wp2_with (at_builtin; refine wp_pushG (V := v3) rfl _ _ rfl rfl gz hln hs z rfl ?_; intro s' w' hpu)
      have hgz := hpu.1
      rw [htk.out] at hgz
      have hb2 := Gr.below hb hs gz hpu.2.1 (Nat.le_refl _)
      exact ⟨⟨i + 1, by omega, by go_num, hgz, hb2⟩, by simp [intOf]; omega⟩
end Go.Proofs.YtlaphcimlingaaaGreat
