/-
  polyz: Add, Sub.
-/
import Derived.Test.YtlaphcimlingaaaGreatVsum
namespace Go.Proofs.YtlaphcimlingaaaGreat
open Go.RowKit
open MP.Se (nf co)
set_option linter.unusedVariables false
set_option maxRecDepth 100000

theorem Pe.kto {w : World} {B n c J K : Nat} {A : Option Addr} {l : List Int} (h : Pe w B A n c l J) (hK : J ≤ K) : Pe w B A n c l K := ⟨h.1, h.2.kto hK⟩
theorem Tm.two {w : World} {g B n c n2 c2 J : Nat} {A A2 : Option Addr} {l l2 : List Int} (h : Pe w B A n c l J) (h2 : Pe w B A2 n2 c2 l2 J) {t : TypeId} (hg : w.heap[g]? = some (.cells #[.slice A n c, .slice A2 n2 c2] t (0, 0))) : Tm w g B [(A, n, c, l), (A2, n2, c2, l2)] J :=
  ⟨(Array.getElem?_eq_some_iff.1 hg).1, fun k hk => by
    rw [cell_of_row w g k _ _ (0, 0) hg]
    rcases k with _ | _ | k
    · exact ⟨rfl, h⟩
    · exact ⟨rfl, h2⟩
    · simp at hk; omega⟩
theorem Tm.three {w : World} {g B n c n2 c2 n3 c3 J : Nat} {A A2 A3 : Option Addr} {l l2 l3 : List Int} (h : Pe w B A n c l J) (h2 : Pe w B A2 n2 c2 l2 J) (h3 : Pe w B A3 n3 c3 l3 J) {t : TypeId} (hg : w.heap[g]? = some (.cells #[.slice A n c, .slice A2 n2 c2, .slice A3 n3 c3] t (0, 0))) : Tm w g B [(A, n, c, l), (A2, n2, c2, l2), (A3, n3, c3, l3)] J :=
  ⟨(Array.getElem?_eq_some_iff.1 hg).1, fun k hk => by
    rw [cell_of_row w g k _ _ (0, 0) hg]
    rcases k with _ | _ | _ | k
    · exact ⟨rfl, h⟩
    · exact ⟨rfl, h2⟩
    · exact ⟨rfl, h3⟩
    · simp at hk; omega⟩
theorem OutS.of {w w1 w' : World} {s : MP.Se} {K : Nat} {e : Ending} (h : OutS w1 s K e w') (hb : Below w.heap.size w w1) : OutS w s K e w' := by
  obtain ⟨L, h1, h2, A, n, c, e, hp, h3⟩ := h
  exact ⟨L, h1, h2, A, n, c, e, hp.more hb.size, bthen hb h3⟩
theorem PAdd_any {A A2 : Option Addr} {n c n2 c2 J K : Nat} {l l2 : List Int} {w : World} (h : Pd w w.heap.size A n c l J) (h2 : Pd w w.heap.size A2 n2 c2 l2 J) (hK : J + (n + n2) ≤ K) (hK2 : K ≤ 900000) :
    Calls Tryz.prog 24 #[.slice A n c, .slice A2 n2 c2] w (OutS w (co l + co l2) K) := by
  have e0 : sT [(A, n, c, l), (A2, n2, c2, l2)] = co l + co l2 := by
    show MP.Se.c 0 + co l + co l2 = _
    rw [MP.Se.zero_add]
  rw [← e0]
  replace h := h.pe; replace h2 := h2.pe
  have hT : J + tT [(A, n, c, l), (A2, n2, c2, l2)] ≤ K := by show J + (0 + n + n2) ≤ K; omega
  clear e0
  go_enter Tryz.func24, Tryz.ntmps24
  go_wp2_with fail
  refine al1c fun v1 hb x => ?_
  replace h := h.keep hb; replace h2 := h2.keep hb
  have t := Tm.two h h2 x
  have hs := hb.size
  with_reducible refine (PSum_any (N := 2) (c := 2) t rfl (by omega) hs (Nat.le_refl _) hT hK2).mono ?_
  rintro e w' ⟨L, hL, hLs, A', m, c', rfl, hp, hb1⟩
  replace hp := hp.more hs
  replace hb := bthen hb hb1
  have HL := Lib.hid hLs; clear hLs
  go_wp2
  go_ret
  exact ⟨L, hL, HL.out, A', m, c', rfl, hp, hb⟩
theorem PSub_any {A A2 : Option Addr} {n c n2 c2 J K : Nat} {l l2 : List Int} {w : World} (h : Pd w w.heap.size A n c l J) (h2 : Pd w w.heap.size A2 n2 c2 l2 J) (hK : J + (n + n2) ≤ K) (hK2 : K ≤ 900000) :
    Calls Tryz.prog 26 #[.slice A n c, .slice A2 n2 c2] w (OutS w (co l - co l2) K) := by
  have e0 : ∀ m3 c3 A3, sT [(A, n, c, l), (A3, m3, c3, nf ((nf l2).map (fun x => -x)))] = co l - co l2 := fun m3 c3 A3 => by
    show MP.Se.c 0 + co l + co _ = _
    rw [MP.Se.zero_add, MP.Se.co_neg, MP.Se.sub_eq]
  have HE := Lib.hid e0
  clear e0
  have hl2 := h2.len
  have hn2 : (nf ((nf l2).map (fun x => -x))).length ≤ n2 := by
    have h1 := MP.Se.nf_len ((nf l2).map (fun x => -x)); have h3 := MP.Se.nf_len l2
    rw [List.length_map] at h1; omega
  have C : Ch (fun _ => False) 0 89 #[] (fun _ _ => True) (fun _ X => -X) (nf l2) J J := Ch.plain ent_ZNeg (fun _ _ _ _ => trivial) (fun w X _ b A n c _ z => ZNeg_any z J (Nat.le_refl _)) (fun _ _ _ _ => trivial)
  replace h := h.pe
  obtain ⟨N, hN⟩ : ∃ N, nf ((nf l2).map (fun x => -x)) = N := ⟨_, rfl⟩
  rw [hN] at hn2
  have HN := Lib.hid hN; clear hN
  go_enter Tryz.func26, Tryz.ntmps26
  go_wp2_with fail
  with_reducible refine (Peach_plain C h2 (Nat.zero_le _) trivial (by omega) (by omega)).mono ?_
  rintro e w1 ⟨A3, m3, c3, rfl, hp, hb⟩
  rw [HN.out] at hp
  have h3 := hp.pd.pe
  have hm3 := h3.len
  replace h := h.keep hb
  clear C h2 hl2 hp
  go_wp2_with fail
  refine al1c fun v1 hb1 x => ?_
  replace h := h.keep hb1; replace h3 := h3.keep hb1
  have h4 : Pe v1 w1.heap.size A n c l J := ⟨h3.1, h.2.more hb.size⟩
  have t := Tm.two h4 h3 x
  have hs := hb1.size
  have hT : J + tT [(A, n, c, l), (A3, m3, c3, N)] ≤ K := by show J + (0 + n + m3) ≤ K; omega
  replace hb := bthen hb hb1
  clear hb1
  with_reducible refine (PSum_any (N := 2) (c := 2) t rfl (by omega) hs (Nat.le_refl _) hT hK2).mono ?_
  rintro e w' ⟨L, hL, hLs, A', m, c', rfl, hp, hb1⟩
  replace hp := hp.more hb.size
  replace hb := bthen hb hb1
  have HL := Lib.hid hLs; clear hLs
  go_wp2
  go_ret
  exact ⟨L, hL, by rw [HL.out, ← HN.out, HE.out], A', m, c', rfl, hp, hb⟩
theorem PTimesS_any {A A2 : Option Addr} {n c n2 c2 J J2 K : Nat} {b : Bool} {X : Int} {l : List Int} {w : World} (h : Pd w w.heap.size A n c l J) (z : Zr w b A2 n2 c2 X J2) (hK : J + J2 ≤ K) (hK2 : K ≤ 1000000) :
    Calls Tryz.prog 30 #[.slice A n c, .agg #[.bool b, .slice A2 n2 c2]] w (OutS w (MP.Se.sm X (co l)) K) := by
  refine (PTimes_any h z hK hK2).mono ?_
  intro e w' h
  exact ⟨_, MP.Se.nm_nf _, MP.Se.co_mulr l X, h⟩
theorem PNormS_any {A : Option Addr} {n c J : Nat} {l : List Int} {w : World} (h : Pd w w.heap.size A n c l J) (hJ : J ≤ 1000000) :
    Calls Tryz.prog 18 #[.slice A n c] w (OutS w (co l) J) := by
  refine (PNorm_any h hJ).mono ?_
  intro e w' h
  exact ⟨_, MP.Se.nm_nf _, MP.Se.co_nf l, h⟩
end Go.Proofs.YtlaphcimlingaaaGreat
