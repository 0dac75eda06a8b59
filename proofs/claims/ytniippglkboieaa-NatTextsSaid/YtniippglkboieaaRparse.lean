/-
  The document's answer: Parse.
-/
import Derived.Test.YtniippglkboieaaRshr
import Derived.Test.YtniippglkboieaaParse
namespace Go.Proofs.Ytniippglkboieaa
open Go.RowKit
set_option linter.unusedVariables false

def QrInv (T : Nat) (bs : List UInt8) (k : Nat) (L : List Int) : Prop := L.length = T ∧ Lim Hb L ∧ vl Hb L = vl 16 ((tdg bs).take k) ∧ ∀ i (hi : i < bs.length), bs.length ≤ i + k → dvB (bs[i].toNat : Int) = true
theorem low_dig {L : List Int} (hL : Lim Hb L) {q e : Nat} (hq : q < L.length) (h : vl Hb L < 2 ^ (32 * q + e)) : L[q].toNat < 2 ^ e := by
  have e1 := vl_split Hb L q (by omega)
  rw [vl_drop_step Hb L q hq] at e1
  rw [Nat.pow_add, ← Hb_pow_k] at h
  have h2 : Hb ^ q * L[q].toNat < Hb ^ q * 2 ^ e := by
    rw [Nat.mul_add] at e1
    omega
  exact Nat.lt_of_mul_lt_mul_left h2
def plI (x d : Int) (r : Nat) : Int := x + d * 2 ^ (4 * r)
theorem plI_eq {x d : Nat} {r : Nat} (hr : r ≤ 7) (hx : x < 2 ^ (4 * r)) (hd : d < 16) : plI x d r = ((x + d * 2 ^ (4 * r) : Nat) : Int) ∧ x + d * 2 ^ (4 * r) < Hb := by
  have h1 : (d + 1) * 2 ^ (4 * r) ≤ 16 * 2 ^ (4 * r) := Nat.mul_le_mul_right _ hd
  have h2 : 16 * 2 ^ (4 * r) ≤ Hb := by
    rw [show (16 : Nat) = 2 ^ 4 by rfl, ← Nat.pow_add, show Hb = 2 ^ 32 by decide]
    exact Nat.pow_le_pow_right (by omega) (by omega)
  rw [Nat.add_mul, Nat.one_mul] at h1
  have h3 : x + d * 2 ^ (4 * r) < Hb := by omega
  refine ⟨?_, h3⟩
  unfold plI
  have e2 : ((d : Int) * 2 ^ (4 * r)) = ((d * 2 ^ (4 * r) : Nat) : Int) := by rw [Int.natCast_mul, Int.natCast_pow]; rfl
  rw [e2]
  omega
theorem QrInv.step {T : Nat} {bs : List UInt8} {k j q r : Nat} {L : List Int} (h : QrInv T bs k L) (hj : j < bs.length) (hk : bs.length = j + 1 + k) (hkq : 4 * k = 32 * q + 4 * r) (hr : r ≤ 7) (hqL : q < L.length)
    (hb : dvB (bs[j].toNat : Int) = true) : QrInv T bs (k + 1) (L.set q (plI L[q] (dvI (bs[j].toNat : Int)) r)) ∧ 0 ≤ dvI (bs[j].toNat : Int) * 2 ^ (4 * r) ∧ dvI (bs[j].toNat : Int) * 2 ^ (4 * r) < 4294967296 := by
  obtain ⟨h1, h2, h3, h4⟩ := h
  have hkt : k < (tdg bs).length := by rw [tdg_length]; omega
  have hd := dvI_lt (bs[j].toNat : Int)
  have hv : vl Hb L < 2 ^ (32 * q + 4 * r) := by
    rw [h3, ← hkq, ← pow16]
    have := vl_lt ((tdg_lim bs).take k)
    rw [List.length_take, Nat.min_eq_left (by omega)] at this
    exact this
  have hlow := low_dig h2 hqL hv
  have hx := h2.get hqL
  have hset := vl_set Hb L q hqL (plI L[q] (dvI (bs[j].toNat : Int)) r)
  have hts := vl_take_succ 16 (tdg bs) k hkt
  rw [tdg_at hj hk hkt] at hts
  generalize dvI (bs[j].toNat : Int) = d at *
  generalize L[q] = x at *
  obtain ⟨x, rfl⟩ := Int.eq_ofNat_of_zero_le hx.1
  obtain ⟨d, rfl⟩ := Int.eq_ofNat_of_zero_le hd.1
  rw [Int.toNat_natCast] at hlow hts
  obtain ⟨o1, o2⟩ := plI_eq (d := d) hr hlow (by omega)
  have e5 : ((d : Int) * 2 ^ (4 * r)) = ((d * 2 ^ (4 * r) : Nat) : Int) := by rw [Int.natCast_mul, Int.natCast_pow]; rfl
  have o3 : d * 2 ^ (4 * r) < Hb := Nat.lt_of_le_of_lt (Nat.le_add_left _ _) o2
  rw [o1] at hset ⊢
  rw [Int.toNat_natCast, Int.toNat_natCast] at hset
  refine ⟨⟨by simpa using h1, h2.set q ⟨Int.natCast_nonneg _, Int.ofNat_lt.2 o2⟩, ?_, ?_⟩, ?_, ?_⟩
  · rw [hts, ← h3]
    have e2 : Hb ^ q * (x + d * 2 ^ (4 * r)) = Hb ^ q * x + 16 ^ k * d := by
      rw [Nat.mul_add, pow16, hkq, Nat.pow_add, ← Hb_pow_k, Nat.mul_comm d, Nat.mul_assoc]
    omega
  · intro i hi hik
    rcases Nat.lt_or_ge (i + k) bs.length with h5 | h5
    · obtain rfl : i = j := by omega
      exact hb
    · exact h4 i hi h5
  · rw [e5]; exact Int.natCast_nonneg _
  · rw [e5, Hb_eq] at *; omega

def QrRel (w : World) (g T : Nat) (bs : List UInt8) (k : Nat) (wr : World) : Prop := ∃ L, QrInv T bs k L ∧ Bk wr g L ∧ Below w.heap.size w wr

set_option maxHeartbeats 4000000 in
theorem RParse_any (s : ByteArray) (w : World) (hs : s.size ≤ 1000000) : Calls Try.prog 40 #[.string s] w (PrPost w s.data.toList) := by
  have hlen : s.data.toList.length = s.size := by rw [Array.length_toList]; rfl
  have HL := Lib.hid hlen; clear hlen
  by_cases h0 : s.size = 0
  · have hnil : s.data.toList = [] := List.eq_nil_of_length_eq_zero (HL.out.trans h0)
    have hbad : PrPost w s.data.toList (.returned (.tuple #[.slice none 0 0, .bool false])) w := .inr ⟨fun h => h.1 hnil, rfl, Below.refl _ _⟩
    have HB := Lib.hid hbad; clear hbad hnil
    have he : s.toList.isEmpty = true := by rw [ByteArray.toList_eq, List.eq_nil_of_length_eq_zero (HL.out.trans h0)]; rfl
    go_enter Try.func40, Try.ntmps40
    go_wp2
    go_ret2
    exact HB.out
  · have he : s.toList.isEmpty = false := by
      rw [ByteArray.toList_eq]
      cases hl : s.data.toList with
      | nil => have := HL.out; rw [hl] at this; exact absurd this.symm h0
      | cons _ _ => rfl
    obtain ⟨T, hT⟩ : ∃ T, T = s.size / 8 + 1 := ⟨_, rfl⟩
    have eT : (s.size : Int) / 8 + 1 = T := by omega
    have hTs : T ≤ 1000001 := by omega
    have HT := Lib.hid hT; clear hT
    go_enter Try.func40, Try.ntmps40
    go_wp2_with (at_make; refine wp_make64 rfl _ _ rfl T _ _ rfl rfl (by omega) (by omega) (by omega) ?_; intro w1 hbk1 hb1)
    go_loopw [5, 6, 7] (fun i _ _ wr => ∃ k : Nat, k ≤ s.size ∧ i = .int .i64 k ∧ QrRel w w.heap.size T s.data.toList k wr) (fun i _ _ _ => s.size - (intOf i).toNat)
    case atStart => exact ⟨0, Nat.zero_le _, rfl, _, ⟨by simp, Lim_replicate Hb0 _, by rw [vl_replicate]; rfl, fun i hi h => by omega⟩, hbk1, hb1⟩
    case round =>
      obtain ⟨k, hk, rfl, L, k1, k2, k3⟩ := hrel
      clear hbk1 hb1
      by_cases hkn : k < s.size
      · obtain ⟨j, hj⟩ : ∃ j, s.size = j + 1 + k := ⟨s.size - 1 - k, by omega⟩
        have ej : (s.size : Int) - 1 - k = j := by omega
        have hjs : j < s.size := by omega
        have hjl : j < s.data.toList.length := by have := HL.out; omega
        have hbj : s.data.toList[j] = s[j] := rfl
        have hcb : s[j].toNat < 256 := UInt8.toNat_lt s[j]
        obtain ⟨q, hq⟩ : ∃ q, q = k / 8 := ⟨_, rfl⟩
        obtain ⟨r, hr⟩ : ∃ r, r = k % 8 := ⟨_, rfl⟩
        have eq1 : (k : Int) / 8 = q := by omega
        have eq2 : (k : Int) % 8 = r := by omega
        have hr7 : r ≤ 7 := by omega
        have hqT : q < T := by have := HT.out; omega
        have hkq : 4 * k = 32 * q + 4 * r := by omega
        have hqL : q < L.length := by have := k1.1; omega
        have hstep := fun hb => k1.step hjl (by have := HL.out; omega) hkq hr7 hqL hb
        have hbad : dvB (s.data.toList[j].toNat : Int) = false → ¬ OkS s.data.toList := fun h1 h2 => by
          have := h2.2 _ (List.getElem_mem hjl)
          rw [h1] at this; cases this
        rw [hbj] at hstep hbad
        have hc1 := k2.cell q hqL
        have hf1 := k2.frozen q
        have bz := dig_lt (k1.2.1.get hqL)
        have HJ := Lib.hid hj; have HKQ := Lib.hid hkq
        clear hj hkq hq hr hbj
        generalize hce : (s[j].toNat : Int) = c at *
        have hc0 : 0 ≤ c := by omega
        have hc255 : c ≤ 255 := by omega
        have hbk' := fun x => k2.set q x
        generalize hzx : L[q] = x at *
        have good : ∀ v : Int, dvI c = v → dvB c = true → ∃ Y, v * 2 ^ (4 * r) = Y ∧ 0 ≤ Y ∧ Y < 4294967296 ∧ QrRel w w.heap.size T s.data.toList (k + 1) (wr.setCell ⟨w.heap.size, q, none⟩ (.int .u64 (x + Y))) := by
          rintro v rfl hb
          obtain ⟨s1, s2, s3⟩ := hstep hb
          exact ⟨_, rfl, s2, s3, _, s1, hbk' _, k3.setCell (Nat.le_refl _) _⟩
        have bad : dvB c = false → PrPost w s.data.toList (.returned (.tuple #[.slice none 0 0, .bool false])) wr := fun hb => .inr ⟨hbad hb, rfl, k3⟩
        clear hstep hbad hbk' k1 k2 hzx
        rcases (show c < 48 ∨ (48 ≤ c ∧ c ≤ 57) ∨ (57 < c ∧ c < 65) ∨ (65 ≤ c ∧ c ≤ 70) ∨ (70 < c ∧ c < 97) ∨ (97 ≤ c ∧ c ≤ 102) ∨ 102 < c by omega) with h | ⟨h, h'⟩ | ⟨h, h'⟩ | ⟨h, h'⟩ | ⟨h, h'⟩ | ⟨h, h'⟩ | h
        · have HF := Lib.hid (bad (by unfold dvB; rw [decide_eq_false_iff_not]; omega))
          clear bad good
          go_wp2
          go_ret2
          exact HF.out
        · obtain ⟨Y, g1, g2, g3, R⟩ := good (c - 48) (by unfold dvI; (repeat' split) <;> omega) (by unfold dvB; rw [decide_eq_true_iff]; omega)
          clear bad good
          go_wp2
          go_roundw
          case rel => exact ⟨k + 1, by omega, by go_num, R⟩
          case measure => simp [intOf]; omega
        · have HF := Lib.hid (bad (by unfold dvB; rw [decide_eq_false_iff_not]; omega))
          clear bad good
          go_wp2
          go_ret2
          exact HF.out
        · obtain ⟨Y, g1, g2, g3, R⟩ := good (c - 65 + 10) (by unfold dvI; (repeat' split) <;> omega) (by unfold dvB; rw [decide_eq_true_iff]; omega)
          clear bad good
          go_wp2
          go_roundw
          case rel => exact ⟨k + 1, by omega, by go_num, R⟩
          case measure => simp [intOf]; omega
        · have HF := Lib.hid (bad (by unfold dvB; rw [decide_eq_false_iff_not]; omega))
          clear bad good
          go_wp2
          go_ret2
          exact HF.out
        · obtain ⟨Y, g1, g2, g3, R⟩ := good (c - 97 + 10) (by unfold dvI; (repeat' split) <;> omega) (by unfold dvB; rw [decide_eq_true_iff]; omega)
          clear bad good
          go_wp2
          go_roundw
          case rel => exact ⟨k + 1, by omega, by go_num, R⟩
          case measure => simp [intOf]; omega
        · have HF := Lib.hid (bad (by unfold dvB; rw [decide_eq_false_iff_not]; omega))
          clear bad good
          go_wp2
          go_ret2
          exact HF.out
      · obtain rfl : s.size = k := by omega
        obtain ⟨i1, i2, i3, i4⟩ := k1
        have hok : OkS s.data.toList := ⟨fun h => by have := HL.out; rw [h] at this; exact h0 this.symm, fun b hb => by
          obtain ⟨i, hi, rfl⟩ := List.mem_iff_getElem.1 hb
          exact i4 i hi (by have := HL.out; omega)⟩
        rw [List.take_of_length_le (by rw [tdg_length]; exact Nat.le_of_eq HL.out)] at i3
        have hw3 := k2.whole (B := wr.heap.size) (n := T) (c := T) k2.lt i1 (Nat.le_refl _) (by omega) (Lim_Wd i2)
        have H3 := Lib.hid i3; have HOK := Lib.hid hok
        clear i1 i3 i4 hok
        go_wp2_with fail
        refine (Limbs_any _ _ _ _ _ hw3 i2 (by omega)).mono ?_
        rintro e w' ⟨A5, n5, c5, rfl, hrd5, hb5⟩
        rw [H3.out] at hrd5
        go_wp2
        go_ret2
        exact .inl ⟨HOK.out, _, _, _, rfl, hrd5, k3.trans (hb5.mono k3.size)⟩
end Go.Proofs.Ytniippglkboieaa
