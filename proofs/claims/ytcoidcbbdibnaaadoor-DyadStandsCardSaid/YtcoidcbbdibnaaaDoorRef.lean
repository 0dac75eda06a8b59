/-
  The document's answer, layer 1: digits of thirty-two bits: Trim, Digits, Limbs, CmpDigits.
-/
import Derived.Test.YtcoidcbbdibnaaaDoorSmall
namespace Go.Proofs.YtcoidcbbdibnaaaDoor
open Go.RowKit
set_option linter.unusedVariables false

def Hb : Nat := 4294967296
theorem Hb_eq : Hb = 4294967296 := rfl
theorem Hb2 : 2 ≤ Hb := by decide
theorem Hb0 : 0 < Hb := Nat.lt_of_lt_of_le (by omega) Hb2
theorem Hb_sq : Hb * Hb = Wd := by decide
theorem Hb_pow (k : Nat) : Hb ^ (2 * k) = Wd ^ k := by rw [Nat.pow_mul, show Hb ^ 2 = Wd by rw [Nat.pow_two]; exact Hb_sq]
theorem Lim_Wd {l : List Int} (h : Lim Hb l) : Lim Wd l := fun x hx => by
  have := h x hx
  rw [Hb_eq] at this
  rw [Wd_eq]; omega
theorem dig_lt {x : Int} (h : 0 ≤ x ∧ x < (Hb : Int)) : 0 ≤ x ∧ x < 4294967296 := by rw [Hb_eq] at h; omega

/-- What a function of digits hands back. -/
def OutH (w : World) (N : Nat) (e : Ending) (w' : World) : Prop := ∃ A n c, e = .returned (.slice A n c) ∧ Rd w' w'.heap.size A n c (dg Hb N) ∧ Below w.heap.size w w'

theorem Rd.trimmedB {b : Nat} (hb : 2 ≤ b) {w : World} {B n c : Nat} {A : Option Addr} {l : List Int} (h : Rd w B A n c l) (hl : Lim b l) {k : Nat} (hk : k ≤ n) (hz : ∀ j (hj : j < l.length), k ≤ j → l[j] = 0)
    (ht : ∀ hh : 0 < k, ∃ hj : k - 1 < l.length, l[k - 1] ≠ 0) : Rd w B A k c (dg b (vl b l)) := by
  rw [dg_take hb hl (by have := h.len; omega) hz (fun hh => (ht hh).2)]
  exact h.take hk

set_option maxHeartbeats 400000 in
theorem Trim_any (A : Option Addr) (n c : Nat) (l : List Int) (w : World) (B : Nat) (h : Rd w B A n c l) (hl : Lim Hb l) :
    Calls Tryd.prog 113 #[.slice A n c] w fun e w' => ∃ n', e = .returned (.slice A n' c) ∧ n' ≤ n ∧ Rd w B A n' c (dg Hb (vl Hb l)) ∧ w = w' := by
  have hcap := h.cap
  have hbig := h.big
  have H := Lib.hid h.len
  go_enter Tryd.func113, Tryd.ntmps113
  go_wp2
  go_loop [3] (fun i => ∃ k : Nat, k ≤ n ∧ i = .int .i64 k ∧ Hid (∀ j (hj : j < l.length), k ≤ j → l[j] = 0)) (fun i => (intOf i).toNat)
  case atStart => exact ⟨n, Nat.le_refl _, rfl, fun j hj hk => by have := H.out; omega⟩
  case round =>
    obtain ⟨k, hk, rfl, hz⟩ := hrel
    rcases k with _ | k
    · go_wp2
      all_goals go_ret
      all_goals exact ⟨_, rfl, Nat.zero_le _, h.trimmedB Hb2 hl (k := 0) (by omega) hz.out (fun hh => absurd hh (by omega)), rfl⟩
    · obtain ⟨b, off, rfl, hb, hc⟩ := h.at_ (by omega)
      have hkl : k < l.length := by have := H.out; omega
      have hck := hc k hkl
      clear hc
      generalize hx : l[k] = x at hck
      have Hx := Lib.hid hx; clear hx
      have hkc : k + 1 ≤ c := by omega
      go_wp2
      · have h0 : (x == 0) = true := by assumption
        have h1 : l[k] = 0 := Hx.out.trans (by simpa using h0)
        go_round
        case rel => exact ⟨k, by omega, rfl, trim_zeros H.out hz.out hkl h1⟩
        case measure => simp [intOf]
      · have h0 : (x == 0) = false := by assumption
        have h1 : l[k] ≠ 0 := fun e => by rw [Hx.out] at e; simp [e] at h0
        go_ret
        exact ⟨_, rfl, by omega, h.trimmedB Hb2 hl (k := k + 1) (by omega) hz.out (fun _ => ⟨hkl, h1⟩), rfl⟩

/-- Two digits a limb. -/
def DgInv (T : Nat) (l : List Int) (k : Nat) (L : List Int) : Prop := L.length = T ∧ Lim Hb L ∧ vl Hb (L.take (2 * k)) = vl Wd (l.take k)
theorem DgInv.step {T : Nat} {l L : List Int} {k : Nat} (h : DgInv T l k L) (hl : Lim Wd l) (hk : k < l.length) (hT : 2 * k + 1 < L.length) :
    DgInv T l (k + 1) ((L.set (2 * k) (l[k] % 4294967296)).set (2 * k + 1) (l[k] / 4294967296)) := by
  obtain ⟨h1, h2, h3⟩ := h
  have hx := hl.get hk
  have hs := vl_take_succ Wd l k hk
  generalize l[k] = x at *
  have b0 : 0 ≤ x % 4294967296 ∧ x % 4294967296 < (Hb : Int) := by rw [Hb_eq]; omega
  have b1 : 0 ≤ x / 4294967296 ∧ x / 4294967296 < (Hb : Int) := by rw [Wd_eq] at hx; rw [Hb_eq]; omega
  refine ⟨by simpa using h1, (h2.set _ b0).set _ b1, ?_⟩
  have e1 := vl_take_succ Hb ((L.set (2 * k) (x % 4294967296)).set (2 * k + 1) (x / 4294967296)) (2 * k + 1) (by simpa using hT)
  have e2 := vl_take_succ Hb ((L.set (2 * k) (x % 4294967296)).set (2 * k + 1) (x / 4294967296)) (2 * k) (by simp; omega)
  rw [List.getElem_set_self] at e1
  have t1 : ((L.set (2 * k) (x % 4294967296)).set (2 * k + 1) (x / 4294967296)).take (2 * k) = L.take (2 * k) := by
    rw [List.take_set_of_le (by omega), List.take_set_of_le (Nat.le_refl _)]
  rw [t1, List.getElem_set_ne (by omega), List.getElem_set_self] at e2
  rw [show 2 * (k + 1) = 2 * k + 1 + 1 by omega, e1, e2, h3, hs, Nat.pow_succ, Hb_pow]
  have e3 : (x % 4294967296).toNat + Hb * (x / 4294967296).toNat = x.toNat := by rw [Hb_eq]; omega
  rw [Nat.mul_assoc, ← e3, Nat.mul_add]
  omega
theorem div32 {x : Int} (hx : Lm x) : x.tmod 4294967296 = x % 4294967296 ∧ IntKind.u64.wrap (x.tdiv 4294967296) = x / 4294967296 := by
  refine ⟨Int.tmod_eq_emod_of_nonneg hx.1, ?_⟩
  unfold Lm at hx
  rw [Wd_eq] at hx
  rw [Int.tdiv_eq_ediv_of_nonneg hx.1, wrap_u64]
  omega
def DgRel (w : World) (g T : Nat) (l : List Int) (k : Nat) (wr : World) : Prop := ∃ L, DgInv T l k L ∧ Bk wr g L ∧ Below w.heap.size w wr

set_option maxHeartbeats 1000000 in
theorem Digits_any (A : Option Addr) (n c : Nat) (l : List Int) (w : World) (h : Rd w w.heap.size A n c l) (hn : n ≤ 1099511627776) :
    Calls Tryd.prog 99 #[.slice A n c] w (OutH w (vl Wd l)) := by
  have H := Lib.hid h.len
  obtain ⟨T, hT⟩ : ∃ T, T = 2 * n := ⟨_, rfl⟩
  have eT : 2 * (n : Int) = T := by omega
  have hTb : T ≤ 2199023255552 := by omega
  have HT := Lib.hid hT; clear hT
  go_enter Tryd.func99, Tryd.ntmps99
  go_wp2_with (at_make; refine wp_make64 rfl _ _ rfl T _ _ rfl rfl (by omega) (by omega) (by omega) ?_; intro w1 hbk1 hb1)
  go_loopw [4] (fun i wr => ∃ k : Nat, k ≤ n ∧ i = .int .i64 k ∧ DgRel w w.heap.size T l k wr) (fun i _ => n - (intOf i).toNat)
  case atStart => exact ⟨0, Nat.zero_le _, rfl, _, ⟨by simp, Lim_replicate Hb0 _, by simp [vl]⟩, hbk1, hb1⟩
  case round =>
    obtain ⟨k, hk, rfl, L, k1, k2, k3⟩ := hrel
    clear hbk1 hb1
    by_cases hkn : k < n
    · obtain ⟨b, of, rfl, hb, hc⟩ := (h.below k3).at_ (by omega)
      have hkl : k < l.length := by have := H.out; omega
      have hLT := k1.1
      have hk1 : 2 * k + 1 < L.length := by have := HT.out; omega
      have hcx := hc k hkl
      have hx : 0 ≤ l[k] := (h.lim.get hkl).1
      have hst := k1.step h.lim hkl hk1
      have c0 := k2.cell (2 * k) (by omega)
      have f0 := k2.frozen (2 * k)
      have c1 := k2.cell (2 * k + 1) (by omega)
      have f1 := k2.frozen (2 * k + 1)
      have s1 := (k2.set (2 * k) (l[k] % 4294967296)).set (2 * k + 1) (l[k] / 4294967296)
      have b3 := (k3.setCell (p := ⟨w.heap.size, 2 * k, none⟩) (Nat.le_refl _) (.int .u64 (l[k] % 4294967296))).setCell (p := ⟨w.heap.size, 2 * k + 1, none⟩) (Nat.le_refl _) (.int .u64 (l[k] / 4294967296))
      have hxl : Lm l[k] := h.lim.get hkl
      clear hc
      generalize l[k] = x at *
      generalize L[2 * k]'(by omega) = z0 at c0
      generalize L[2 * k + 1]'hk1 = z1 at c1
      have R : DgRel w w.heap.size T l (k + 1) ((wr.setCell ⟨w.heap.size, 2 * k, none⟩ (.int .u64 (x % 4294967296))).setCell ⟨w.heap.size, 2 * k + 1, none⟩ (.int .u64 (x / 4294967296))) := ⟨_, hst, s1, b3⟩
      obtain ⟨e1, e2⟩ := div32 hxl
      obtain ⟨x0, hx0⟩ : ∃ x0, x % 4294967296 = x0 := ⟨_, rfl⟩
      obtain ⟨x1, hx1⟩ : ∃ x1, x / 4294967296 = x1 := ⟨_, rfl⟩
      rw [hx0] at e1 R
      rw [hx1] at e2 R
      have hcx3 : (wr.setCell ⟨w.heap.size, 2 * k, none⟩ (.int .u64 x0)).cell? ⟨b, of + k, none⟩ = _ := (World.cell?_setCell_other wr ⟨w.heap.size, 2 * k, none⟩ ⟨b, of + k, none⟩ _ (fun e => by injection e with e; omega)).trans hcx
      obtain ⟨u, hu⟩ : ∃ u, u = 2 * k := ⟨_, rfl⟩
      have hu2 : 2 * (k : Int) = u := by omega
      have huT : (u : Int) + 1 < T := by have := HT.out; omega
      rw [← hu] at c0 f0 c1 f1 R hcx3
      have HU := Lib.hid hu
      clear hst s1 b3 hu hk1 hLT k2 k3 hxl
      go_wp2
      go_roundw
      case rel => exact ⟨k + 1, by omega, by go_num, R⟩
      case measure => simp [intOf]; omega
    · obtain rfl : n = k := by omega
      obtain ⟨i1, i2, i3⟩ := k1
      rw [List.take_of_length_le (by have := HT.out; omega), List.take_of_length_le (by have := H.out; omega)] at i3
      have hw3 := k2.whole (B := wr.heap.size) (n := T) (c := T) k2.lt i1 (Nat.le_refl _) (by omega) (Lim_Wd i2)
      have H3 := Lib.hid i3
      clear i1 i3
      go_wp2_with fail
      refine (Trim_any _ _ _ _ _ _ hw3 i2).mono ?_
      rintro e w' ⟨n5, rfl, _, hrd5, rfl⟩
      rw [H3.out] at hrd5
      go_wp2
      go_ret
      exact ⟨_, _, _, rfl, hrd5, k3⟩
end Go.Proofs.YtcoidcbbdibnaaaDoor
