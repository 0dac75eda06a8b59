/-
  the document: Sub, Same.
-/
import Derived.Test.YtlaphcimlingaaaGreatVRt
namespace Go.Proofs.YtlaphcimlingaaaGreat
open Go.RowKit
open MP.Se (nf co)
set_option linter.unusedVariables false
set_option maxRecDepth 100000

theorem DoSub_any {A A2 : Option Addr} {n c n2 c2 J J2 K : Nat} {l l2 : List Int} {w : World} (h : Pd w w.heap.size A n c l J) (h2 : Pd w w.heap.size A2 n2 c2 l2 J2) (hJ : J ≤ K) (hJ2 : J2 + 1 ≤ K) (hK : K ≤ 80000) (hn : n ≤ 1000) (hn2 : n2 ≤ 1000) :
    Calls Tryz.prog 27 #[.slice A n c, .slice A2 n2 c2] w (OutN w (co l - co l2) (K + 1)) := by
  have hl2 := h2.len
  have H := Lib.hid h.pe; have H2 := Lib.hid h2.pe; have HL2 := Lib.hid hl2
  clear h h2 hl2
  go_enter Tryz.func27, Tryz.ntmps27
  go_wp2_with fail
  with_reducible refine (ROf_any (-1) (by omega) (by omega)).mono ?_
  rintro e v1 ⟨A3, n3, c3, rfl, z, hb⟩
  go_wp2_with fail
  with_reducible refine (DoTimes_any (H2.out.keep hb).pd z.zr (by omega) hn2).mono ?_
  rintro e v2 ⟨L, A4, n4, c4, rfl, hN, hL, p4, hb1⟩
  replace hb := bthen hb hb1
  have hn4 : n4 ≤ 1000 := Nat.le_trans (by rw [← p4.len]; exact MP.Se.nm_len hN (by rw [hL]; exact (MP.Se.co_bd l2).sm)) (by rw [HL2.out]; exact hn2)
  have HN := Lib.hid hN; have HL := Lib.hid hL
  clear hb1 z hN hL
  go_wp2_with fail
  with_reducible refine (DoAdd_any ((H.out.keep hb).pd.kto hJ) (p4.pd.kto (by omega)) (by omega) hn hn4).mono ?_
  rintro e v3 ⟨L5, A5, n5, c5, rfl, hN5, hL5, p5, hb1⟩
  replace hb := bthen hb hb1
  have H5 : Hid (co L5 = co l - co l2) := Lib.hid (by rw [hL5, HL.out, MP.Se.sm_neg, MP.Se.sub_eq])
  clear hL5 hb1
  go_wp2
  go_ret
  exact ⟨L5, _, _, _, rfl, hN5, H5.out, p5, hb⟩
theorem DoSame_any {A A2 : Option Addr} {n c n2 c2 J : Nat} {l l2 : List Int} {w : World} (h : Pd w w.heap.size A n c l J) (h2 : Pd w w.heap.size A2 n2 c2 l2 J) (hJ : J ≤ 100000) (hn : n ≤ 1000) (hn2 : n2 ≤ 1000) :
    Calls Tryz.prog 21 #[.slice A n c, .slice A2 n2 c2] w fun e w' => e = .returned (.bool (decide (nf l = nf l2))) ∧ Below w.heap.size w w' := by
  have H2 := Lib.hid h2.pe
  obtain ⟨β, hβ⟩ : ∃ β, decide (nf l = nf l2) = β := ⟨_, rfl⟩
  rw [hβ]
  have HB := Lib.hid hβ
  clear h2 hβ
  go_enter Tryz.func21, Tryz.ntmps21
  go_wp2_with fail
  with_reducible refine (DoNorm_any h hJ hn).mono ?_
  rintro e v1 ⟨L, A3, n3, c3, rfl, hN, hL, p3, hb⟩
  obtain rfl := MP.Se.nm_ext hN (MP.Se.nm_nf l) (by rw [hL, MP.Se.co_nf])
  clear h hN hL
  go_wp2_with fail
  with_reducible refine (DoNorm_any (H2.out.keep hb).pd hJ hn2).mono ?_
  rintro e v2 ⟨L, A4, n4, c4, rfl, hN, hL, p4, hb1⟩
  obtain rfl := MP.Se.nm_ext hN (MP.Se.nm_nf l2) (by rw [hL, MP.Se.co_nf])
  replace p3 := p3.keep hb1
  replace hb := bthen hb hb1
  clear hN hL hb1
  go_wp2_with fail
  with_reducible refine (RExactAll_any p3 p4).mono ?_
  rintro e v3 ⟨rfl, hb1⟩
  replace hb := bthen hb hb1
  rw [HB.out]
  clear p3 p4 hb1
  go_wp2
  go_ret
  exact ⟨rfl, hb⟩
end Go.Proofs.YtlaphcimlingaaaGreat
