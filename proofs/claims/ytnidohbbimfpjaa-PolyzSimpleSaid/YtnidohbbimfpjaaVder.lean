/-
  polyz: Derive.
-/
import Derived.Test.YtnidohbbimfpjaaVmap
namespace Go.Proofs.Ytnidohbbimfpjaa
open Go.RowKit
open MP.Se (nf co)
set_option linter.unusedVariables false
set_option maxRecDepth 100000

/-- What the loop of Derive keeps. -/
def DeR (w : World) (l : List Int) (J : Nat) (A5 : Option Addr) (n5 c5 g k : Nat) (wr : World) : Prop :=
  ∃ L : List Int, Pw wr g L (J + 1) ∧ L.length = l.length - 1 ∧ L.take k = (MP.Se.ls (l.length - 1) (MP.Se.dr (co l))).take k ∧ Pe wr w.heap.size A5 n5 c5 l J ∧ Below w.heap.size w wr
theorem dr_step {l L : List Int} {k : Nat} {X : Int} (hk : k + 1 < l.length) (hL : L.length = l.length - 1) (h : L.take k = (MP.Se.ls (l.length - 1) (MP.Se.dr (co l))).take k) (hX : X = l[k + 1] * ((k : Int) + 1)) :
    (L.set k X).take (k + 1) = (MP.Se.ls (l.length - 1) (MP.Se.dr (co l))).take (k + 1) := by
  rw [List.take_add_one, List.take_add_one, List.take_set_of_le (Nat.le_refl k), h, List.getElem?_set_self (by omega), List.getElem?_eq_getElem (by rw [MP.Se.len_ls]; omega), MP.Se.ls_at, MP.Se.dr_at, MP.Se.co_at hk, hX, Int.mul_comm]
  rfl
theorem PDerive_any {A : Option Addr} {n c J : Nat} {l : List Int} {w : World} (h : Pd w w.heap.size A n c l J) (hJ : J ≤ 900000) :
    Calls Try.prog 29 #[.slice A n c] w (OutP w (nf (MP.Se.ls (l.length - 1) (MP.Se.dr (co l)))) (J + 1)) := by
  have hl := h.len
  have hbig := h.big
  replace h := h.pe
  have HL := Lib.hid hl; clear hl
  rcases (show n = 0 ∨ 0 < n by omega) with h0 | h0
  · subst h0
    have e0 : MP.Se.ls (l.length - 1) (MP.Se.dr (co l)) = [] := by rw [HL.out]; rfl
    rw [e0]
    go_enter Try.func29, Try.ntmps29
    go_wp2
    go_ret
    exact ⟨none, 0, 0, rfl, .inl ⟨rfl, rfl, rfl, rfl⟩, Below.refl _ _⟩
  obtain ⟨m, hm⟩ : ∃ m, m + 1 = n := ⟨n - 1, by omega⟩
  have hn0 : ((n : Int) == 0) = false := by simp; omega
  have hidx : IntKind.i64.wrap ((n : Int) - 1) = (m : Int) := by rw [i64_keep (by omega) (by omega)]; omega
  go_enter Try.func29, Try.ntmps29
  go_wp2_with (at_make; refine wp_makeP rfl _ _ rfl m (J + 1) _ _ rfl rfl rfl rfl (by omega) ?_; intro v1 p_g hb)
  replace h := h.keep hb
  have hr0 : DeR w l J A n c w.heap.size 0 v1 := ⟨_, p_g, by simp; have := HL.out; omega, by simp, h, hb⟩
  clear p_g hb h
  go_wp2_with fail
  go_loopw [14] (fun kv wr => ∃ k : Nat, k ≤ m ∧ kv = .int .i64 (k : Int) ∧ DeR w l J A n c w.heap.size k wr) (fun kv _ => m - (intOf kv).toNat)
  case atStart => exact ⟨0, by omega, rfl, hr0⟩
  case round =>
    clear hr0
    obtain ⟨k, hk, rfl, L, p_g, hL, hLk, h, hb⟩ := hrel
    rcases (show k = m ∨ k < m by omega) with hkm | hkm
    · subst hkm
      have hLL : L = MP.Se.ls (l.length - 1) (MP.Se.dr (co l)) := by rw [List.take_of_length_le (by have := HL.out; omega), List.take_of_length_le (by rw [MP.Se.len_ls]; have := HL.out; omega)] at hLk; exact hLk
      have hpo := p_g.po (B := w.heap.size) (Nat.le_refl _)
      have hLm : L.length = k := by have := HL.out; omega
      rw [hLm] at hpo
      have HLL := Lib.hid hLL
      clear hLm hLL hLk hL p_g h
      go_wp2_with fail
      with_reducible refine (Ptrim_any hpo.pd (by omega)).mono ?_
      rintro e v3 ⟨A3, m3, c3, rfl, hm3, ht3, hb1⟩
      have hpo3 := (hpo.keep hb1).trim hm3 ht3
      replace hb := bthen hb hb1
      clear hm3 ht3 hpo hb1
      go_wp2
      go_ret
      exact ⟨A3, m3, c3, rfl, by rw [← HLL.out]; exact hpo3, hb⟩
    · have hkl : k + 1 < l.length := by have := HL.out; omega
      obtain ⟨d, o, b5, A5, n5, c5, rfl, hd, x_e, z5⟩ := h.ec (k := k + 1) (by omega)
      have hst := fun X => dr_step (X := X) hkl hL hLk
      obtain ⟨Y, hY⟩ : ∃ Y, l[k + 1] = Y := ⟨_, rfl⟩
      rw [hY] at z5 hst
      have hLi : Hid (k < L.length) := Lib.hid (by have := HL.out; omega)
      have HL2 := Lib.hid hL
      obtain ⟨j, hj⟩ : ∃ j, k + 1 = j := ⟨_, rfl⟩
      have hidx2 : IntKind.i64.wrap ((k : Int) + 1) = (j : Int) := by rw [i64_keep (by omega) (by omega)]; omega
      have hk1 : j < n := by omega
      have hjk : Hid ((j : Int) = (k : Int) + 1) := Lib.hid (by omega)
      rw [hj] at x_e
      have HS := Lib.hid (hst (Y * (j : Int)) (by rw [hjk.out]))
      clear hj hst hY hLk hL
      have q_e := x_e.al
      obtain ⟨At1, nt1, ct1, x_t, _⟩ := p_g.ec (k := k) hLi.out
      have q_t := x_t.al
      have f_t := And.intro (p_g.fr (k * 2)) (p_g.fr (k * 2 + 1))
      go_upto_region 7 with fail
      go_region_law (first | (go_simp; go_at_call 68; (with_reducible refine (ZOf_any (j : Int) (by omega) (by omega)).mono ?_); rintro e v2 ⟨A6, n6, c6, rfl, z6, hb1⟩; replace hb1 := undrew hb1; obtain ⟨x_e, x_t, h, p_g, z5, hb⟩ := mv6 hb1 x_e x_t h p_g z5 hb; clear hb1; replace q_e := x_e.al; replace q_t := x_t.al; replace f_t := And.intro (p_g.fr (k * 2)) (p_g.fr (k * 2 + 1))) | (go_simp; go_at_call 40; (with_reducible refine (ZMul_any z5 z6.zr (J + 1) (by omega) (by omega)).mono ?_); rintro e v3 ⟨A7, n7, c7, rfl, z7, hb1⟩; obtain ⟨x_e, x_t, h, p_g, z5, z6, hb⟩ := mv7 hb1 x_e x_t h p_g z5 z6 hb; clear hb1; replace q_e := x_e.al; replace q_t := x_t.al; replace f_t := And.intro (p_g.fr (k * 2)) (p_g.fr (k * 2 + 1))))
      all_goals
        clear x_t f_t q_t
        have hkj : k + 1 = j := by have := hjk.out; omega
        rw [hkj] at HS
        have HKJ := Lib.hid hkj; clear hkj
        go_wp2
        have hkj := HKJ.out
        refine ⟨⟨j, by omega, rfl, ?_⟩, by simp [intOf]; omega⟩
        clear q_e
        refine p_g.st (F := DeR w l J (some ⟨d, o, none⟩) n c w.heap.size j) (k := k) hLi.out z7 fun v4 hs hx => ?_
        obtain ⟨x_e, h, z5, z6, z7, hb⟩ := ms6 hs ⟨by omega, by omega, trivial, trivial, trivial, by omega⟩ x_e h z5 z6 z7 hb
        replace p_g := hx; clear hx hs
        have q_e := x_e.al
        exact ⟨_, p_g, by simp; exact HL2.out, HS.out, h, hb⟩
end Go.Proofs.Ytnidohbbimfpjaa
