/-
  polyz: zeros are cut off a slice's end.
-/
import Derived.Test.YtnidohbbimfpjaaVpol
import Derived.Test.YtnidohbbimfpjaaVmem
namespace Go.Proofs.Ytnidohbbimfpjaa.MP.Se
theorem nf_le_take (l : List Int) (k : Nat) (hk : k < l.length) (h : l[k] = 0) : nf (l.take (k + 1)) = nf (l.take k) := by
  rw [List.take_add_one, List.getElem?_eq_getElem hk, h]; exact nf_zero _
theorem nf_take_ne (l : List Int) (k : Nat) (hk : k < l.length) (h : l[k] ≠ 0) : nf (l.take (k + 1)) = l.take (k + 1) := by
  rw [List.take_add_one, List.getElem?_eq_getElem hk]; exact nf_ne _ h
theorem nf_take (l : List Int) : nf l = l.take (nf l).length := by
  refine snoc_ind (P := fun l => nf l = l.take (nf l).length) (by simp [nf_nil]) (fun l a ih => ?_) l
  by_cases h : a = 0
  · subst h
    rw [nf_zero, List.take_append_of_le_length (nf_len l)]; exact ih
  · rw [nf_ne l h, List.take_length]
end Go.Proofs.Ytnidohbbimfpjaa.MP.Se
namespace Go.Proofs.Ytnidohbbimfpjaa
open Go.RowKit
open MP.Se (nf)
set_option linter.unusedVariables false
set_option maxRecDepth 100000

/-- What is left of a slice: nothing, or its beginning. -/
def Tr (A : Option Addr) (c m : Nat) (A' : Option Addr) (c' : Nat) : Prop := m = 0 ∧ A' = none ∧ c' = 0 ∨ 0 < m ∧ A' = A ∧ c' = c
theorem Pd.trim {w : World} {B : Nat} {A A' : Option Addr} {n c m c' J : Nat} {l : List Int} (h : Pd w B A n c l J) (hm : m = (nf l).length) (ht : Tr A c m A' c') : Pd w B A' m c' (nf l) J := by
  rcases ht with ⟨h0, rfl, rfl⟩ | ⟨h0, rfl, rfl⟩
  · rw [List.eq_nil_of_length_eq_zero (hm.symm.trans h0), h0]; exact Pd.nil _ _ _
  · rw [MP.Se.nf_take l, ← hm]
    exact h.take (by rw [hm, ← h.len]; exact MP.Se.nf_len l)
theorem Po.trim {w : World} {B : Nat} {A A' : Option Addr} {n c m c' J : Nat} {l : List Int} (h : Po w B A n c l J) (hm : m = (nf l).length) (ht : Tr A c m A' c') : Po w B A' m c' (nf l) J := by
  rcases ht with ⟨h0, rfl, rfl⟩ | ⟨h0, rfl, rfl⟩
  · exact .inl ⟨rfl, h0, rfl, List.eq_nil_of_length_eq_zero (hm.symm.trans h0)⟩
  · rcases h with ⟨rfl, rfl, rfl, rfl⟩ | ⟨g, L, rfl, hg, rfl, hn, hp, hl⟩
    · rw [hm] at h0; exact absurd h0 (by simp [MP.Se.nf_nil])
    · have hle := MP.Se.nf_len l
      have hll : l.length = n := by rw [hl]; simp; omega
      refine .inr ⟨g, L, rfl, hg, rfl, by omega, hp, ?_⟩
      rw [MP.Se.nf_take l, ← hm, hl, List.take_take]; congr 1; omega
theorem Ptrim_any {A : Option Addr} {n c J : Nat} {l : List Int} {w : World} (h : Pd w w.heap.size A n c l J) (hJ : J ≤ 1000000) :
    Calls Try.prog 57 #[.slice A n c] w fun e w' => ∃ A' m c', e = .returned (.slice A' m c') ∧ m = (nf l).length ∧ Tr A c m A' c' ∧ Below w.heap.size w w' := by
  have hl := h.len
  have hbig := h.big
  have hcap := h.cap
  have hr0 : Hid (nf l = nf (l.take n)) := Lib.hid (by rw [← hl, List.take_length])
  go_enter Try.func57, Try.ntmps57
  go_wp2_with fail
  go_loopw [3] (fun kv wr => ∃ k : Nat, k ≤ n ∧ kv = .int .i64 (k : Int) ∧ Hid (nf l = nf (l.take k)) ∧ Below w.heap.size w wr) (fun kv _ => (intOf kv).toNat)
  case atStart => exact ⟨n, Nat.le_refl _, rfl, hr0, Below.refl _ _⟩
  case round =>
    clear hr0
    obtain ⟨k, hk, rfl, hr, hb⟩ := hrel
    rcases Nat.eq_zero_or_pos k with h0 | h0
    · subst h0
      have hm : Hid ((nf l).length = 0) := Lib.hid (by rw [hr.out]; rfl)
      clear hr
      go_wp2
      go_ret
      exact ⟨none, 0, 0, rfl, hm.out.symm, .inl ⟨rfl, rfl, rfl⟩, hb⟩
    · obtain ⟨k, rfl⟩ : ∃ j, k = j + 1 := ⟨k - 1, by omega⟩
      have hkl : k < l.length := by omega
      obtain ⟨d, o, b, A', n', c', rfl, hd, h1, h2, z⟩ := (h.keep (Nat.le_refl _) hb).cells (k := k) (by omega)
      have hz : Hid (l[k] = 0 → nf l = nf (l.take k)) := Lib.hid fun e => hr.out.trans (MP.Se.nf_le_take l k hkl e)
      have hz2 : Hid (l[k] ≠ 0 → (nf l).length = k + 1) := Lib.hid fun e => by
        rw [hr.out, MP.Se.nf_take_ne l k hkl e]; simp; omega
      clear hr
      generalize l[k] = X at *
      go_wp2_with fail
      with_reducible refine (ZSign_any z hJ).mono ?_
      rintro e v2 ⟨rfl, hb1⟩
      replace hb := bthen hb hb1
      rcases Classical.em (X = 0) with hX | hX
      · have hz1 := Lib.hid (hz.out hX)
        subst hX
        clear hz hz2 z h1 h2 hb1
        rw [show sgnI 0 = 0 from rfl]
        go_wp2_with fail
        refine ⟨⟨k, by omega, rfl, hz1, hb⟩, by simp [intOf]⟩
      · have hm := Lib.hid (hz2.out hX)
        have hsg : (sgnI X == 0) = false := by simp [sgnI]; omega
        clear hz hz2 z h1 h2 hb1
        generalize sgnI X = S at *
        go_wp2
        go_ret
        exact ⟨_, k + 1, c, rfl, hm.out.symm, .inr ⟨by omega, rfl, rfl⟩, hb⟩
end Go.Proofs.Ytnidohbbimfpjaa
