/-
  polyz: each.
-/
import Derived.Test.YtnidohbbimfpjaaVtrim
namespace Go.Proofs.Ytnidohbbimfpjaa
open Go.RowKit
open MP.Se (nf)
set_option linter.unusedVariables false
set_option maxRecDepth 100000

/-- A function value that turns the k-th integer X into f k X, and may turn blocks of P, all below B; I is what it keeps. -/
structure Ch (P : Nat → Prop) (B fid : Nat) (caps : Array Value) (I : World → Nat → Prop) (f : Nat → Int → Int) (l : List Int) (J K : Nat) : Prop where
  ent : ∀ (args : Array Value) (w : World), (callFunc fid args).run Try.prog w = .ok (.enter fid args) w
  lt : ∀ b, P b → b < B
  keep : ∀ (w w' : World) (k : Nat), I w k → Fz (fun b => B ≤ b) w w' → I w' k
  step : ∀ (w : World) (k : Nat) (hk : k < l.length) (b : Bool) (A : Option Addr) (n c : Nat), I w k → Zr w b A n c l[k] J →
    Calls Try.prog fid (#[.agg #[.bool b, .slice A n c]] ++ caps) w fun e w' => ∃ A' n' c', e = .returned (.agg #[.bool (ngB (f k l[k])), .slice A' n' c']) ∧ Zn w' A' n' c' (f k l[k]) K ∧ I w' (k + 1) ∧ Fz P w w'
/-- What the loop of each keeps. -/
def EaR (P : Nat → Prop) (I : World → Nat → Prop) (D : Nat) (A : Option Addr) (m c : Nat) (N : List Int) (J K : Nat) (f : Nat → Int → Int) (w : World) (g k : Nat) (wr : World) : Prop :=
  ∃ L : List Int, Pw wr g L K ∧ L.length = m ∧ L.take k = (N.mapIdx f).take k ∧ I wr k ∧ Fz P w wr ∧ Pd wr D A m c N J
theorem Peach_any {P : Nat → Prop} {B D fid : Nat} {caps : Array Value} {I : World → Nat → Prop} {f : Nat → Int → Int} {J K : Nat} {A : Option Addr} {n c : Nat} {l : List Int} {w : World}
    (C : Ch P B fid caps I f (nf l) J K) (h : Pd w D A n c l J) (hD : D ≤ w.heap.size) (hP : ∀ b, P b → D ≤ b) (hB : B ≤ w.heap.size) (hI : I w 0) (hJ : J ≤ 1000000) (hK : K ≤ 1000000) :
    Calls Try.prog 63 #[.slice A n c, .func (.func fid) #[] caps] w fun e w' => ∃ A' m c', e = .returned (.slice A' m c') ∧ Po w' w.heap.size A' m c' (nf ((nf l).mapIdx f)) K ∧ I w' (nf l).length ∧ Fz P w w' := by
  have hl := h.len
  have hbig := h.big
  have HE := C.ent
  obtain ⟨N, hN⟩ : ∃ N, nf l = N := ⟨_, rfl⟩
  rw [hN] at C ⊢
  obtain ⟨M, hM⟩ : ∃ M, N.mapIdx f = M := ⟨_, rfl⟩
  obtain ⟨T, hT⟩ : ∃ T, N.length = T := ⟨_, rfl⟩
  rw [hM, hT]
  have HN := Lib.hid hN; have HM0 := Lib.hid hM; have HT := Lib.hid hT; clear hN hM hT
  go_enter Try.func63, Try.ntmps63
  go_wp2_with fail
  with_reducible refine (Ptrim_any (h.more hD) hJ).mono ?_
  rintro e v1 ⟨A1, m, c1, rfl, hm, ht, hb⟩
  replace h := (h.keep hD hb).trim hm ht
  have hmb := h.big
  rw [HN.out] at h
  have hm2 := h.len
  have HM := Lib.hid hm2; clear hm2 hm ht hl hbig
  have hTm : Hid (T = m) := Lib.hid (by rw [← HT.out]; exact HM.out)
  have HC := Lib.hid C; have hlt := C.lt; have hkp := C.keep; clear C
  go_wp2_with (at_make; refine wp_makeP rfl _ _ rfl m K _ _ rfl rfl rfl rfl hmb ?_; intro v2 hp hb1; obtain ⟨g, hg⟩ : ∃ g, v1.heap.size = g := ⟨_, rfl⟩; rw [hg] at hp ⊢; have hgw : w.heap.size ≤ g := by rw [← hg]; exact hb.size)
  replace h := h.keep (Nat.le_trans hD hb.size) hb1
  replace hb := bthen hb hb1
  replace hI := hkp _ _ _ hI (Fz.of hb)
  have HK := Lib.hid hkp
  clear hb1 hg hkp
  have hr0 : EaR P I D A1 m c1 N J K f w g 0 v2 := ⟨_, hp, by simp, by simp, hI, Fz.of hb, h⟩
  clear hp hI hb h
  go_loopw [14] (fun kv wr => ∃ k : Nat, k ≤ m ∧ kv = .int .i64 (k : Int) ∧ EaR P I D A1 m c1 N J K f w g k wr) (fun kv _ => m - (intOf kv).toNat)
  case atStart => exact ⟨0, by omega, rfl, hr0⟩
  case round =>
    clear hr0
    obtain ⟨k, hk, rfl, L, hp, hLm, hLk, hI, hf, h⟩ := hrel
    have hDr := Nat.le_trans hD hf.size
    by_cases hkm : k < m
    · have hkN : k < N.length := by have := HM.out; omega
      obtain ⟨d, o, b, A', n', c', rfl, hd, h1, h2, z⟩ := h.cells hkm
      have hst := HC.out.step wr k hkN b A' n' c' hI z
      have hset : ∀ X, X = f k N[k] → (L.set k X).take (k + 1) = (N.mapIdx f).take (k + 1) := fun X hX => by
        rw [List.take_add_one, List.take_add_one, List.take_set_of_le (Nat.le_refl k), hLk, List.getElem?_set_self (by omega), List.getElem?_mapIdx, List.getElem?_eq_getElem hkN, hX]; rfl
      obtain ⟨X, hX⟩ : ∃ X, f k N[k] = X := ⟨_, rfl⟩
      rw [hX] at hst
      have HS := Lib.hid (hset X hX.symm)
      have HST := Lib.hid hst
      clear hset hX hst z hLk hI
      have HL := Lib.hid hLm; clear hLm
      go_wp2_with fail
      with_reducible refine HST.out.mono ?_
      rintro e v3 ⟨A8, n8, c8, rfl, z8, hI, hf1⟩
      replace h := h.via hDr hf1 hP
      replace hp := hp.via hf1 (fun hq => by have := hlt _ hq; omega)
      replace hf := hf.trans hf1
      clear hf1 h1 h2 HST
      obtain ⟨A9, n9, c9, q0, q1, _⟩ := hp.cells (k := k) (by have := HL.out; omega)
      have f0 := hp.fr (k * 2)
      have f1 := hp.fr (k * 2 + 1)
      go_wp2_with fail
      obtain ⟨hs, hp2⟩ := hp.set (k := k) (by have := HL.out; omega) z8
      refine ⟨⟨k + 1, by omega, by go_num, _, hp2, by simp; exact HL.out, HS.out, HK.out _ _ _ hI (hs.fz.mono fun b _ e => by omega), hf.sto hs (.inl hgw), h.sto (by omega) hs⟩, by simp [intOf]; omega⟩
    · obtain rfl : k = m := by omega
      have hLN : L = N.mapIdx f := by rw [List.take_of_length_le (by omega), List.take_of_length_le (by simp; have := HM.out; omega)] at hLk; exact hLk
      rw [HM0.out] at hLN
      subst hLN
      have hpo := hp.po (B := w.heap.size) hgw
      rw [hLm] at hpo
      clear hLm hLk h hp
      go_wp2_with fail
      with_reducible refine (Ptrim_any hpo.pd hK).mono ?_
      rintro e v3 ⟨A3, m3, c3, rfl, hm3, ht3, hb1⟩
      have hpo3 := (hpo.keep hb1).trim hm3 ht3
      have HM3 := Lib.hid hm3
      clear hm3
      go_wp2
      go_ret
      exact ⟨A3, m3, c3, rfl, hpo3, by rw [← HT.out, HM.out]; exact HK.out _ _ _ hI (Fz.of hb1), hf.thenB hb1⟩
end Go.Proofs.Ytnidohbbimfpjaa
