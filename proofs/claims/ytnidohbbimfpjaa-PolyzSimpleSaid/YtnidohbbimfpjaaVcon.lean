/-
  polyz: Content, lead, Degree.
-/
import Derived.Test.YtnidohbbimfpjaaVmap
namespace Go.Proofs.Ytnidohbbimfpjaa
open Go.RowKit
open MP.Se (nf co)
set_option linter.unusedVariables false
set_option maxRecDepth 100000

/-- The greatest common divisor of a list. -/
def ctL (l : List Int) : Int := l.foldl (fun a x => (Nat.gcd a.natAbs x.natAbs : Int)) 0
theorem ctL_step (l : List Int) (k : Nat) (hk : k < l.length) : (Nat.gcd (ctL (l.take k)).natAbs l[k].natAbs : Int) = ctL (l.take (k + 1)) := by
  rw [ctL, ctL, List.take_add_one, List.getElem?_eq_getElem hk, List.foldl_append]; rfl
/-- What the loop of Content keeps. -/
def CnR (w : World) (l : List Int) (J : Nat) (A5 : Option Addr) (n5 c5 k : Nat) (wr : World) : Prop :=
  Bx wr w.heap.size false none 0 0 ∧ Pe wr w.heap.size A5 n5 c5 l J ∧ (∃ A' n' c', Bx wr (w.heap.size + 1) (ngB (ctL (l.take k))) A' n' c' ∧ Zn wr A' n' c' (ctL (l.take k)) J) ∧ Below w.heap.size w wr
theorem PContent_any {A : Option Addr} {n c J : Nat} {l : List Int} {w : World} (h : Pd w w.heap.size A n c l J) (hK2 : J ≤ 900000) :
    Calls Try.prog 55 #[.slice A n c] w (OutZ w (ctL l) J) := by
  have hl := h.len
  have hbig := h.big
  replace h := h.pe
  have HL := Lib.hid hl; clear hl
  go_enter Try.func55, Try.ntmps55
  go_upto_region 2 with fail
  refine al2 fun v1 hb x_r x_v => ?_
  replace x_r := Bx.of x_r; replace x_v := Bx.of x_v
  replace h := Mv.mv h hb
  have q_r := x_r.al
  have q_v := x_v.al
  clear q_r q_v
  have hr0 : CnR w l J A n c 0 v1 := ⟨x_r, h, ⟨none, 0, 0, x_v, Zn.zero _ _⟩, hb⟩
  clear x_r x_v hb h
  go_wp2_with fail
  go_loopw [7] (fun kv wr => ∃ k : Nat, k ≤ n ∧ kv = .int .i64 (k : Int) ∧ CnR w l J A n c k wr) (fun kv _ => n - (intOf kv).toNat)
  case atStart => exact ⟨0, by omega, rfl, hr0⟩
  case round =>
    clear hr0
    obtain ⟨k, hk, rfl, x_r, h, ⟨A4, n4, c4, x_v, z4⟩, hb⟩ := hrel
    rcases (show k = n ∨ k < n by omega) with hkm | hkm
    · subst hkm
      have e0 : Hid (ctL (l.take k) = ctL l) := Lib.hid (by rw [List.take_of_length_le (by rw [HL.out]; omega)])
      rw [e0.out] at x_v z4
      have q_r := x_r.al
      have q_v := x_v.al
      go_wp2
      clear q_r q_v
      refine x_r.st fun v2 hs hx => ?_
      obtain ⟨x_v, h, z4, hb⟩ := ms4 hs ⟨by omega, by omega, trivial, by omega⟩ x_v h z4 hb
      replace x_r := hx; clear hx hs
      have q_r := x_r.al
      have q_v := x_v.al
      skip
      refine bodyPost_ret (v := .agg #[.bool (ngB (ctL l)), .slice A4 n4 c4]) (by simp [results, Try.results55, go_sem, q_r]) rfl ?_
      exact ⟨_, _, _, rfl, z4, hb⟩
    · have hkl : k < l.length := by have := HL.out; omega
      have hst := ctL_step l k hkl
      obtain ⟨d, o, b5, A5, n5, c5, rfl, hd, x_e, z5⟩ := h.ec hkm
      obtain ⟨Y, hY⟩ : ∃ Y, l[k] = Y := ⟨_, rfl⟩
      rw [hY] at hst z5
      obtain ⟨V, hV⟩ : ∃ V, ctL (l.take k) = V := ⟨_, rfl⟩
      rw [hV] at hst x_v z4
      have HS := Lib.hid hst
      clear hst hV hY
      have q_r := x_r.al
      have q_v := x_v.al
      have q_e := x_e.al
      go_upto_region 5 with fail
      go_region_law (first | (go_simp; go_at_call 54; (with_reducible refine (ZGcd_any z4.drw.zr z5.drw J (Nat.le_refl _) (Nat.le_refl _) (by omega)).mono ?_); rintro e v2 ⟨A6, n6, c6, rfl, z6, hb1⟩; replace hb1 := undrew hb1; obtain ⟨x_r, x_v, x_e, h, z4, z5, hb⟩ := mv7 hb1 x_r x_v x_e h z4 z5 hb; clear hb1; replace q_r := x_r.al; replace q_v := x_v.al; replace q_e := x_e.al; rw [HS.out] at z6; rw [HS.out]))
      all_goals
        go_wp2
        refine ⟨⟨k + 1, by omega, by go_num, ?_⟩, by simp [intOf]; omega⟩
        clear q_r q_v q_e
        refine x_v.st (F := CnR w l J (some ⟨d, o, none⟩) n c (k + 1)) fun v3 hs hx => ?_
        obtain ⟨x_r, x_e, h, z4, z5, z6, hb⟩ := ms7 hs ⟨by omega, by omega, by omega, trivial, trivial, trivial, by omega⟩ x_r x_e h z4 z5 z6 hb
        replace x_v := hx; clear hx hs
        have q_r := x_r.al
        have q_v := x_v.al
        have q_e := x_e.al
        exact ⟨x_r, h, ⟨A6, n6, c6, x_v, z6⟩, hb⟩
theorem PDegree_any {A : Option Addr} {n c J : Nat} {l : List Int} {w : World} (h : Pd w w.heap.size A n c l J) (hJ : J ≤ 1000000) :
    Calls Try.prog 19 #[.slice A n c] w fun e w' => e = .returned (.int .i64 (((nf l).length : Int) - 1)) ∧ Below w.heap.size w w' := by
  have hbig := h.big
  have hl := h.len
  have hle := MP.Se.nf_len l
  obtain ⟨M, hM⟩ : ∃ M, (nf l).length = M := ⟨_, rfl⟩
  rw [hM] at hle ⊢
  go_enter Try.func19, Try.ntmps19
  go_wp2_with fail
  with_reducible refine (Ptrim_any h hJ).mono ?_
  rintro e v1 ⟨A1, m, c1, rfl, hm, ht, hb⟩
  obtain rfl : m = M := hm.trans hM
  clear hm hM ht h
  go_wp2
  go_ret
  exact ⟨rfl, hb⟩
/-- The last of what is left of a list. -/
def ldL (l : List Int) : Int := (nf l).getD ((nf l).length - 1) 0
theorem PLead_any {A : Option Addr} {n c J : Nat} {l : List Int} {w : World} (h : Pd w w.heap.size A n c l J) (hJ : J ≤ 1000000) :
    Calls Try.prog 65 #[.slice A n c] w fun e w' => ∃ b A' n' c', e = .returned (.agg #[.bool b, .slice A' n' c']) ∧ Zr w' b A' n' c' (ldL l) J ∧ Below w.heap.size w w' := by
  have hbig := h.big
  have hl := h.len
  have hle := MP.Se.nf_len l
  obtain ⟨N, hN⟩ : ∃ N, nf l = N := ⟨_, rfl⟩
  have e0 : ldL l = N.getD (N.length - 1) 0 := by rw [ldL, hN]
  rw [e0]
  replace h := h.pe
  have HN := Lib.hid hN; clear hN e0
  go_enter Try.func65, Try.ntmps65
  go_upto_region 1 with fail
  refine al1 fun v1 hb x_r => ?_
  replace x_r := Bx.of x_r
  replace h := Mv.mv h hb
  have q_r := x_r.al
  go_wp2_with fail
  with_reducible refine (Ptrim_any h.pd hJ).mono ?_
  rintro e v2 ⟨A1, m, c1, rfl, hm, ht, hb1⟩
  obtain ⟨x_r, h, hb⟩ := mv3 hb1 x_r h hb
  clear hb1
  replace q_r := x_r.al
  have ht2 := h.2.trim hm ht
  rw [HN.out] at hm ht2
  rcases (show m = 0 ∨ 0 < m by omega) with h0 | h0
  · subst h0
    have hN0 : N = [] := List.eq_nil_of_length_eq_zero hm.symm
    subst hN0
    clear hm ht ht2
    go_wp2
    clear q_r
    refine x_r.st fun v3 hs hx => ?_
    obtain ⟨h, hb⟩ := ms2 hs ⟨by omega, by omega⟩ h hb
    replace x_r := hx; clear hx hs
    have q_r := x_r.al
    refine bodyPost_ret (v := .agg #[.bool false, .slice none 0 0]) (by simp [results, Try.results65, go_sem, q_r]) rfl ?_
    exact ⟨_, _, _, _, rfl, (Zn.zero _ _).zr, hb⟩
  · have hh : Pe v2 w.heap.size A1 m c1 N J := ⟨h.1, ht2⟩
    obtain ⟨d, o, b5, A5, n5, c5, rfl, hd, x_e, z5⟩ := hh.ec (k := m - 1) (by omega)
    have e1 : N.getD (N.length - 1) 0 = N[m - 1] := by rw [List.getD_eq_getElem?_getD, List.getElem?_eq_getElem (by omega)]; simp only [← hm]; rfl
    obtain ⟨Y, hY⟩ : ∃ Y, N[m - 1] = Y := ⟨_, rfl⟩
    rw [hY] at e1 z5
    have HE := Lib.hid e1
    obtain ⟨i, hi⟩ : ∃ i, m - 1 = i := ⟨_, rfl⟩
    rw [hi] at x_e
    have hmb := hh.big
    have hidx : IntKind.i64.wrap ((m : Int) - 1) = (i : Int) := by rw [i64_keep (by omega) (by omega)]; omega
    have hin : i < m := by omega
    clear hY e1 ht2 hh hi hm ht
    have q_e := x_e.al
    go_wp2
    clear q_r q_e
    refine x_r.st fun v3 hs hx => ?_
    obtain ⟨x_e, h, z5, hb⟩ := ms4 hs ⟨by omega, by omega, trivial, by omega⟩ x_e h z5 hb
    replace x_r := hx; clear hx hs
    have q_r := x_r.al
    have q_e := x_e.al
    refine bodyPost_ret (v := .agg #[.bool b5, .slice A5 n5 c5]) (by simp [results, Try.results65, go_sem, q_r]) rfl ?_
    exact ⟨_, _, _, _, rfl, by rw [HE.out]; exact z5, hb⟩
end Go.Proofs.Ytnidohbbimfpjaa
