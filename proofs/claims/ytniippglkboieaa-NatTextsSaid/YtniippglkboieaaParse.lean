/-
  digitValue, Parse.
-/
import Derived.Test.YtniippglkboieaaRing
namespace Go.Proofs.Ytniippglkboieaa
open Go.RowKit
set_option linter.unusedVariables false

def dvI (c : Int) : Int := if 48 ≤ c ∧ c ≤ 57 then c - 48 else if 97 ≤ c ∧ c ≤ 102 then c - 87 else if 65 ≤ c ∧ c ≤ 70 then c - 55 else 0
def dvB (c : Int) : Bool := decide ((48 ≤ c ∧ c ≤ 57) ∨ (97 ≤ c ∧ c ≤ 102) ∨ (65 ≤ c ∧ c ≤ 70))
theorem dvI_lt (c : Int) : 0 ≤ dvI c ∧ dvI c < 16 := by unfold dvI; split <;> (try split) <;> (try split) <;> omega
theorem two_ret_b {a c : Int} {b d : Bool} (h1 : a = c) (h2 : b = d) : Ending.returned (.tuple #[.int .u64 a, .bool b]) = .returned (.tuple #[.int .u64 c, .bool d]) := by rw [h1, h2]

set_option maxHeartbeats 1000000 in
theorem digitValue_any (c : Int) (w : World) (h0 : 0 ≤ c) (h1 : c ≤ 255) :
    Calls Try.prog 62 #[.int .u8 c] w fun e w' => e = .returned (.tuple #[.int .u64 (dvI c), .bool (dvB c)]) ∧ w = w' := by
  rcases (show c < 48 ∨ (48 ≤ c ∧ c ≤ 57) ∨ (57 < c ∧ c < 65) ∨ (65 ≤ c ∧ c ≤ 70) ∨ (70 < c ∧ c < 97) ∨ (97 ≤ c ∧ c ≤ 102) ∨ 102 < c by omega) with h | ⟨h, h'⟩ | ⟨h, h'⟩ | ⟨h, h'⟩ | ⟨h, h'⟩ | ⟨h, h'⟩ | h
  all_goals
    go_enter Try.func62, Try.ntmps62
    go_wp2
    go_ret2
    refine ⟨two_ret_b ?_ ?_, rfl⟩
  all_goals first
    | (unfold dvB; rw [eq_comm, decide_eq_true_iff]; omega)
    | (unfold dvB; rw [eq_comm, decide_eq_false_iff_not]; omega)
    | (unfold dvI; (repeat' split) <;> first | omega | (simp only [wrap_u64]; omega))

/-- The digits of a text, the last one first. -/
def tdg (bs : List UInt8) : List Int := bs.reverse.map fun b => dvI (b.toNat : Int)
/-- A text that is a number. -/
def OkS (bs : List UInt8) : Prop := bs ≠ [] ∧ ∀ b ∈ bs, dvB (b.toNat : Int) = true
theorem tdg_length (bs : List UInt8) : (tdg bs).length = bs.length := by simp [tdg]
theorem tdg_lim (bs : List UInt8) : Lim 16 (tdg bs) := fun x hx => by
  obtain ⟨b, _, rfl⟩ := List.mem_map.1 hx
  exact dvI_lt _
theorem tdg_at {bs : List UInt8} {j k : Nat} (hj : j < bs.length) (hk : bs.length = j + 1 + k) (h2 : k < (tdg bs).length) : (tdg bs)[k] = dvI (bs[j].toNat : Int) := by
  have e : bs.length - 1 - k = j := by omega
  simp only [tdg, List.getElem_map, List.getElem_reverse, e]

def PrInv (T : Nat) (bs : List UInt8) (k : Nat) (L : List Int) : Prop := L.length = T ∧ Lim Wd L ∧ vl Wd L = vl 16 ((tdg bs).take k) ∧ ∀ i (hi : i < bs.length), bs.length ≤ i + k → dvB (bs[i].toNat : Int) = true
theorem pow16 (k : Nat) : (16 : Nat) ^ k = 2 ^ (4 * k) := by rw [show (16 : Nat) = 2 ^ 4 by rfl, ← Nat.pow_mul]
theorem low_limb {L : List Int} (hL : Lim Wd L) {q e : Nat} (hq : q < L.length) (h : vl Wd L < 2 ^ (64 * q + e)) : L[q].toNat < 2 ^ e := by
  have e1 := vl_split Wd L q (by omega)
  rw [vl_drop_step Wd L q hq] at e1
  rw [Nat.pow_add, ← Wd_pow_k] at h
  have h2 : Wd ^ q * L[q].toNat < Wd ^ q * 2 ^ e := by
    rw [Nat.mul_add] at e1
    omega
  exact Nat.lt_of_mul_lt_mul_left h2
def orI (x d : Int) (r : Nat) : Int := bits .or .u64 x (IntKind.u64.wrap (d * 2 ^ (r * 4)))
theorem orI_eq {x d : Nat} {r : Nat} (hr : r ≤ 15) (hx : x < 2 ^ (4 * r)) (hd : d < 16) : orI x d r = ((x + d * 2 ^ (4 * r) : Nat) : Int) ∧ x + d * 2 ^ (4 * r) < Wd := by
  have h1 : (d + 1) * 2 ^ (4 * r) ≤ 16 * 2 ^ (4 * r) := Nat.mul_le_mul_right _ hd
  have h2 : 16 * 2 ^ (4 * r) ≤ Wd := by
    rw [show (16 : Nat) = 2 ^ 4 by rfl, ← Nat.pow_add, Wd_pow]
    exact Nat.pow_le_pow_right (by omega) (by omega)
  rw [Nat.add_mul, Nat.one_mul] at h1
  have h3 : x + d * 2 ^ (4 * r) < Wd := by omega
  refine ⟨?_, h3⟩
  have hW := Wd_eq
  unfold orI
  have e : IntKind.u64.wrap ((d : Int) * 2 ^ (r * 4)) = ((d * 2 ^ (4 * r) : Nat) : Int) := by
    rw [wrap_u64, Nat.mul_comm r 4]
    have e2 : ((d : Int) * 2 ^ (4 * r)) = ((d * 2 ^ (4 * r) : Nat) : Int) := by rw [Int.natCast_mul, Int.natCast_pow]; rfl
    rw [e2]
    generalize d * 2 ^ (4 * r) = y at *
    omega
  have k1 : x < Wd := Nat.lt_of_le_of_lt (Nat.le_add_right _ _) h3
  have k2 : d * 2 ^ (4 * r) < Wd := Nat.lt_of_le_of_lt (Nat.le_add_left _ _) h3
  rw [Wd_eq] at k1 k2
  rw [e, u64_or_nat _ _ k1 k2, Nat.or_comm, nat_join (4 * r) _ _ (Nat.mul_mod_left _ _) hx, Nat.add_comm]
theorem PrInv.step {T : Nat} {bs : List UInt8} {k j q r : Nat} {L : List Int} (h : PrInv T bs k L) (hj : j < bs.length) (hk : bs.length = j + 1 + k) (hkq : 4 * k = 64 * q + 4 * r) (hr : r ≤ 15) (hqL : q < L.length)
    (hb : dvB (bs[j].toNat : Int) = true) : PrInv T bs (k + 1) (L.set q (orI L[q] (dvI (bs[j].toNat : Int)) r)) := by
  obtain ⟨h1, h2, h3, h4⟩ := h
  have hkt : k < (tdg bs).length := by rw [tdg_length]; omega
  have hd := dvI_lt (bs[j].toNat : Int)
  have hv : vl Wd L < 2 ^ (64 * q + 4 * r) := by
    rw [h3, ← hkq, ← pow16]
    have := vl_lt ((tdg_lim bs).take k)
    rw [List.length_take, Nat.min_eq_left (by omega)] at this
    exact this
  have hlow := low_limb h2 hqL hv
  have hx := h2.get hqL
  have hset := vl_set Wd L q hqL (orI L[q] (dvI (bs[j].toNat : Int)) r)
  have hts := vl_take_succ 16 (tdg bs) k hkt
  rw [tdg_at hj hk hkt] at hts
  generalize dvI (bs[j].toNat : Int) = d at *
  generalize L[q] = x at *
  obtain ⟨x, rfl⟩ := Int.eq_ofNat_of_zero_le hx.1
  obtain ⟨d, rfl⟩ := Int.eq_ofNat_of_zero_le hd.1
  rw [Int.toNat_natCast] at hlow hts
  obtain ⟨o1, o2⟩ := orI_eq (d := d) hr hlow (by omega)
  rw [o1] at hset ⊢
  rw [Int.toNat_natCast, Int.toNat_natCast] at hset
  refine ⟨by simpa using h1, h2.set q ⟨Int.natCast_nonneg _, Int.ofNat_lt.2 o2⟩, ?_, ?_⟩
  · rw [hts, ← h3]
    have e2 : Wd ^ q * (x + d * 2 ^ (4 * r)) = Wd ^ q * x + 16 ^ k * d := by
      rw [Nat.mul_add, pow16, hkq, Nat.pow_add, ← Wd_pow_k, Nat.mul_comm d, Nat.mul_assoc]
    omega
  · intro i hi hik
    rcases Nat.lt_or_ge (i + k) bs.length with h5 | h5
    · obtain rfl : i = j := by omega
      exact hb
    · exact h4 i hi h5

def PrRel (w : World) (g T : Nat) (bs : List UInt8) (k : Nat) (wr : World) : Prop := ∃ L, PrInv T bs k L ∧ Bk wr g L ∧ Below w.heap.size w wr
def PrPost (w : World) (bs : List UInt8) (e : Ending) (w' : World) : Prop :=
  (OkS bs ∧ Out2 w (vl 16 (tdg bs)) e w') ∨ (¬ OkS bs ∧ e = .returned (.tuple #[.slice none 0 0, .bool false]) ∧ Below w.heap.size w w')

set_option maxHeartbeats 2000000 in
theorem Parse_any (s : ByteArray) (w : World) (hs : s.size ≤ 1099511627776) : Calls Try.prog 39 #[.string s] w (PrPost w s.data.toList) := by
  have hlen : s.data.toList.length = s.size := by rw [Array.length_toList]; rfl
  have HL := Lib.hid hlen; clear hlen
  by_cases h0 : s.size = 0
  · have hnil : s.data.toList = [] := List.eq_nil_of_length_eq_zero (HL.out.trans h0)
    have hbad : PrPost w s.data.toList (.returned (.tuple #[.slice none 0 0, .bool false])) w := .inr ⟨fun h => h.1 hnil, rfl, Below.refl _ _⟩
    have HB := Lib.hid hbad; clear hbad hnil
    have hb0 : ((s.size : Int) == 0) = true := by simp [h0]
    clear h0
    go_enter Try.func39, Try.ntmps39
    go_wp2
    go_ret2
    exact HB.out
  · have hb0 : ((s.size : Int) == 0) = false := by simpa using h0
    obtain ⟨T, hT⟩ : ∃ T, T = (s.size + 15) / 16 := ⟨_, rfl⟩
    have eT : ((s.size : Int) + 16 - 1) / 16 = T := by omega
    have hTs : T ≤ 1099511627776 := by omega
    have HT := Lib.hid hT; clear hT
    go_enter Try.func39, Try.ntmps39
    go_wp2_with (at_make; refine wp_make64 rfl _ _ rfl T _ _ rfl rfl (by omega) (by omega) (by omega) ?_; intro w1 hbk1 hb1)
    go_loopw [5, 6, 7, 19] (fun _ _ _ i wr => ∃ k : Nat, k ≤ s.size ∧ i = .int .i64 k ∧ PrRel w w.heap.size T s.data.toList k wr) (fun _ _ _ i _ => s.size - (intOf i).toNat)
    case atStart => exact ⟨0, Nat.zero_le _, rfl, _, ⟨by simp, Lim_replicate Wd0 _, by rw [vl_replicate]; rfl, fun i hi h => by omega⟩, hbk1, hb1⟩
    case round =>
      obtain ⟨k, hk, rfl, L, k1, k2, k3⟩ := hrel
      clear hbk1 hb1
      by_cases hkn : k < s.size
      · obtain ⟨j, hj⟩ : ∃ j, s.size = j + 1 + k := ⟨s.size - 1 - k, by omega⟩
        have ej : (s.size : Int) - 1 - k = j := by omega
        have hjs : j < s.size := by omega
        have hjl : j < s.data.toList.length := by have := HL.out; omega
        have hbj : s.data.toList[j] = s[j] := rfl
        have hcb : s[j].toNat < 256 := UInt8.toNat_lt s[j]
        obtain ⟨q, hq⟩ : ∃ q, q = k / 16 := ⟨_, rfl⟩
        obtain ⟨r, hr⟩ : ∃ r, r = k % 16 := ⟨_, rfl⟩
        have eq1 : (k : Int) / 16 = q := by omega
        have eq2 : (k : Int) % 16 = r := by omega
        have hr15 : r ≤ 15 := by omega
        have hqT : q < T := by have := HT.out; omega
        have hkq : 4 * k = 64 * q + 4 * r := by omega
        have hqL : q < L.length := by have := k1.1; omega
        have hstep := fun hb => k1.step hjl (by have := HL.out; omega) hkq hr15 hqL hb
        have hbad : dvB (s.data.toList[j].toNat : Int) = false → ¬ OkS s.data.toList := fun h1 h2 => by
          have := h2.2 _ (List.getElem_mem hjl)
          rw [h1] at this; cases this
        rw [hbj] at hstep hbad
        have hc1 := k2.cell q hqL
        have hf1 := k2.frozen q
        have er : ((r : Int) * 4).toNat = r * 4 := by omega
        have HJ := Lib.hid hj; have HKQ := Lib.hid hkq
        clear hj hkq hq hr hbj
        go_wp2_with fail
        refine (digitValue_any (s[j].toNat : Int) _ (by omega) (by omega)).mono ?_
        rintro e w' ⟨rfl, rfl⟩
        generalize hce : (s[j].toNat : Int) = c at *
        have hdI := dvI_lt c
        cases hdb : dvB c
        · have hfin : PrPost w s.data.toList (.returned (.tuple #[.slice none 0 0, .bool false])) wr := .inr ⟨hbad hdb, rfl, k3⟩
          have HF := Lib.hid hfin
          clear hfin hstep hbad
          go_wp2
          go_ret2
          exact HF.out
        · have hst := hstep hdb
          generalize hzx : L[q] = x at *
          have hbk' := k2.set q (orI x (dvI c) r)
          have R : PrRel w w.heap.size T s.data.toList (k + 1) (wr.setCell ⟨w.heap.size, q, none⟩ (.int .u64 (orI x (dvI c) r))).drew := ⟨_, hst, hbk', (k3.setCell (Nat.le_refl _) _).drew⟩
          clear hst hbk' hstep hbad hzx hdb
          generalize dvI c = d at *
          go_wp2
          go_region
          all_goals go_wp2
          all_goals go_roundw
          all_goals first | exact ⟨k + 1, by omega, by go_num, R⟩ | (simp [intOf]; omega)
      · obtain rfl : s.size = k := by omega
        obtain ⟨i1, i2, i3, i4⟩ := k1
        have hok : OkS s.data.toList := ⟨fun h => by have := HL.out; rw [h] at this; exact h0 this.symm, fun b hb => by
          obtain ⟨i, hi, rfl⟩ := List.mem_iff_getElem.1 hb
          exact i4 i hi (by have := HL.out; omega)⟩
        rw [List.take_of_length_le (by rw [tdg_length]; exact Nat.le_of_eq HL.out)] at i3
        have hw3 := k2.whole (B := wr.heap.size) (n := T) (c := T) k2.lt i1 (Nat.le_refl _) (by omega) i2
        have H3 := Lib.hid i3; have HOK := Lib.hid hok
        clear i1 i3 i4 hok
        go_wp2_with fail
        refine (trim_any _ _ _ _ _ _ hw3).mono ?_
        rintro e w' ⟨A5, n5, c5, rfl, hrd5, rfl⟩
        rw [H3.out] at hrd5
        go_wp2
        go_ret2
        exact .inl ⟨HOK.out, _, _, _, rfl, hrd5, k3⟩
end Go.Proofs.Ytniippglkboieaa
