/-
  Hex: bytes made, filled from the end, turned into a string.
-/
import Derived.Test.YtniippglkboieaaHex
import Derived.Laws.IdiomStrings
namespace Go.Proofs.Ytniippglkboieaa
open Go.RowKit
set_option linter.unusedVariables false

def byteV (b : UInt8) : Value := .int .u8 (b.toNat : Int)
/-- Block g holds just the bytes l. -/
def Bk8 (w : World) (g : Nat) (l : List UInt8) : Prop := w.heap[g]? = some (.cells (l.map byteV).toArray 5 (0, 0))
section
variable {w w' : World} {g : Nat} {l : List UInt8}
theorem Bk8.lt (h : Bk8 w g l) : g < w.heap.size := by
  rcases Nat.lt_or_ge g w.heap.size with hlt | hge
  · exact hlt
  · unfold Bk8 at h; rw [Array.getElem?_eq_none hge] at h; cases h
theorem Bk8.cell (h : Bk8 w g l) (i : Nat) (hi : i < l.length) : w.cell? ⟨g, i, none⟩ = some (.int .u8 (l[i].toNat : Int)) := by
  rw [cell_of_row w g i _ 5 (0, 0) h]; simp [hi, byteV]
theorem Bk8.frozen (h : Bk8 w g l) (i : Nat) : w.frozen? ⟨g, i, none⟩ = false := by
  unfold Bk8 at h
  simp [World.frozen?, h]
theorem Bk8.set (h : Bk8 w g l) (i : Nat) (x : UInt8) : Bk8 (w.setCell ⟨g, i, none⟩ (.int .u8 (x.toNat : Int))) g (l.set i x) := by
  unfold Bk8 at h ⊢
  simp [World.setCell, Array.getElem?_modify, h, List.map_set, byteV]
theorem Bk8.below {B : Nat} (h : Bk8 w g l) (hb : Below B w w') (hg : g < B) : Bk8 w' g l := (hb.block g hg).trans h
end
theorem Try.info8 : (Try.prog.info? 5).map (fun i => (i.zero, i.size, i.bytes)) = some (some (.int .u8 0), 1, 1) := by kernel_rfl
theorem madeCells8 (n : Nat) : madeCells (Value.int .u8 0).cells n = ((List.replicate n (0 : UInt8)).map byteV).toArray := by
  apply Array.toList_inj.1
  rw [show (Value.int .u8 0).cells = #[.int .u8 0] from rfl, toList_madeCells_one]
  simp [byteV]
theorem wp_make8 {w : World} {ops : Array Oper} {rest : List Oper} {o : Oper} {a : Act} {Q : Exit → Act → World → Prop} (hg : o.guard = none) (l c : Operand) (hop : o.op = Op.makeSlice 55 l c)
    (n : Nat) (L C : Int) (hl : a.eval l = .int .i64 L) (hc : a.eval c = .int .i64 C) (hL : L = (n : Int)) (hC : C = (n : Int)) (hb : n ≤ 140737488355328)
    (hK : ∀ w', Bk8 w' w.heap.size (List.replicate n 0) → Below w.heap.size w w' → wpList Try.prog ops Q rest (a.put o.dst (.slice (some ⟨w.heap.size, 0, none⟩) n n)) w') :
    wpList Try.prog ops Q (o :: rest) a w := by
  obtain ⟨i0, hi, hz0, hz1, hz2⟩ := info_parts Try.info8
  refine wpList_make_full w hg l c 55 hop 0 5 i0 (.int .u8 0) 1 Try.underlying55 hi hz0 hz1 .i64 .i64 L C n hl hc hL hC (by rw [hz2]; omega) (by unfold maxLen; omega) (Nat.zero_le _) ?_
  intro w' hown hgrow
  refine hK w' ?_ ⟨hgrow.os, hgrow.tape, hgrow.output, hgrow.size, fun k hk => hgrow.block k hk (by simp)⟩
  obtain ⟨_, h2⟩ := hown
  rcases h2 with ⟨h, _⟩ | ⟨g, cap, cur, hv, _, hh, hnc, _, hcs, hxs⟩
  · cases h
  · injection hv with hv1 hv2 hv3
    injection hv1 with hv1
    injection hv1 with hv1
    subst hv1 hv3
    unfold Bk8
    rw [hh]
    congr 2
    rw [Nat.mul_one, madeCells8, List.take_of_length_le (by simp; omega)] at hxs
    exact Array.toList_inj.1 hxs

/-- A hexadecimal digit's letter. -/
def hexC (d : Nat) : UInt8 := if d < 10 then UInt8.ofNat (48 + d) else UInt8.ofNat (87 + d)
theorem hex_index (d : Nat) (hd : d < 16) (w : World) : (Instr.index 9 (.string { data := #[48, 49, 50, 51, 52, 53, 54, 55, 56, 57, 97, 98, 99, 100, 101, 102] }) (.int .u64 (d : Int))).run Try.prog w = .ok (.int .u8 ((hexC d).toNat : Int)) w := by
  rcases (show d = 0 ∨ d = 1 ∨ d = 2 ∨ d = 3 ∨ d = 4 ∨ d = 5 ∨ d = 6 ∨ d = 7 ∨ d = 8 ∨ d = 9 ∨ d = 10 ∨ d = 11 ∨ d = 12 ∨ d = 13 ∨ d = 14 ∨ d = 15 by omega) with rfl | rfl | rfl | rfl | rfl | rfl | rfl | rfl | rfl | rfl | rfl | rfl | rfl | rfl | rfl | rfl <;> kernel_rfl

/-- The lowest k hexadecimal digits, the highest of them first. -/
def tl (N : Nat) : Nat → List UInt8
  | 0 => []
  | k + 1 => hexC (N / 16 ^ k % 16) :: tl N k
theorem tl_length (N k : Nat) : (tl N k).length = k := by induction k with | zero => rfl | succ k ih => simp [tl, ih]
/-- How many digits a number is written with. -/
def hexN (N : Nat) : Nat := max 1 ((bl N + 3) / 4)
theorem tl_step {N n k : Nat} (hk : k < n) : (List.replicate (n - k) (0 : UInt8) ++ tl N k).set (n - 1 - k) (hexC (N / 16 ^ k % 16)) = List.replicate (n - (k + 1)) 0 ++ tl N (k + 1) := by
  obtain ⟨m, rfl⟩ : ∃ m, n = m + 1 + k := ⟨n - 1 - k, by omega⟩
  rw [show m + 1 + k - k = m + 1 by omega, show m + 1 + k - 1 - k = m by omega, show m + 1 + k - (k + 1) = m by omega, List.replicate_succ', List.append_assoc, List.set_append_right _ _ (by simp)]
  simp [tl]

theorem conv_back {w : World} {g n : Nat} {l : List UInt8} (h : Bk8 w g l) (hn : l.length = n) : (convert 55 9 (.slice (some ⟨g, 0, none⟩) n n)).run Try.prog w = .ok (.string ⟨l.toArray⟩) w := by
  subst hn
  refine run_convert_bytes_back w 55 9 5 _ _ l Try.underlying55 Try.underlying5 Try.underlying9 (fun j hj => ?_)
  rw [← h.cell j hj]
  unfold Addr.add
  by_cases hj0 : j = 0
  · subst hj0; simp
  · rw [if_neg hj0]; simp

def HxRel (w : World) (g : Nat) (N m k : Nat) (wr : World) : Prop := Bk8 wr g (List.replicate (m - k) 0 ++ tl N k) ∧ Below w.heap.size w wr

set_option maxHeartbeats 1000000 in
theorem Hex_more (A : Option Addr) (n c : Nat) (l : List Int) (w : World) (h : Rd w w.heap.size A n c l) (hn : n ≤ 1099511627776) (hpos : 16 ≤ vl Wd l) :
    Calls Try.prog 41 #[.slice A n c] w fun e w' => e = .returned (.string ⟨(tl (vl Wd l) (hexN (vl Wd l))).toArray⟩) ∧ Below w.heap.size w w' := by
  have hcap := h.cap
  have hbig := h.big
  have hbl : bl (vl Wd l) ≤ 64 * n := bl_le (by have := vl_lt h.lim; rw [h.len, Wd_pow_k] at this; exact this)
  have hbp : 4 < bl (vl Wd l) := bl_ge (k := 4) (by omega)
  obtain ⟨m, hm⟩ : ∃ m, m = hexN (vl Wd l) := ⟨_, rfl⟩
  have hm1 : m = max 1 ((bl (vl Wd l) + 3) / 4) := hm
  rw [← hm]
  generalize hβ : bl (vl Wd l) = β at *
  have hmb1 : 1 < m := by omega
  have hmb : m ≤ 16 * n + 1 := by omega
  have em : ((β : Int) + 4 - 1) / 4 = m := by omega
  have em1 : (1 : Int) < m := by omega
  have HB := Lib.hid hβ; have HM := Lib.hid hm; clear hβ hm1 hm
  generalize hN : vl Wd l = N at *
  have HN := Lib.hid hN; clear hN hpos
  go_enter Try.func41, Try.ntmps41
  go_wp2_with fail
  refine (BitLen_any _ _ _ _ _ _ h).mono ?_
  rintro e w' ⟨rfl, rfl⟩
  rw [HN.out, HB.out]
  go_wp2_with (at_make; refine wp_make8 rfl _ _ rfl m _ _ rfl rfl (by omega) (by omega) (by omega) ?_; intro w1 hbk1 hb1)
  go_loopw [5, 15] (fun _ i wr => ∃ k : Nat, k ≤ m ∧ i = .int .i64 k ∧ HxRel w w.heap.size N m k wr) (fun _ i _ => m - (intOf i).toNat)
  case atStart => exact ⟨0, Nat.zero_le _, rfl, by simpa [tl] using hbk1, hb1⟩
  case round =>
    obtain ⟨k, hk, rfl, k1, k2⟩ := hrel
    clear hbk1 hb1
    by_cases hkm : k < m
    · obtain ⟨j, hj⟩ : ∃ j, m = j + 1 + k := ⟨m - 1 - k, by omega⟩
      have hlen : (List.replicate (m - k) (0 : UInt8) ++ tl N k).length = m := by rw [List.length_append, tl_length]; simp; omega
      have hjl : j < (List.replicate (m - k) (0 : UInt8) ++ tl N k).length := by omega
      have hc1 := k1.cell j hjl
      have hf1 := k1.frozen j
      have hst := k1.set j (hexC (N / 16 ^ k % 16))
      rw [show j = m - 1 - k by omega, tl_step hkm, ← show j = m - 1 - k by omega] at hst
      have hrd := h.below k2
      have e1 : (m : Int) - 1 - k = j := by omega
      have hjm : (j : Int) < m := by omega
      generalize hz : (List.replicate (m - k) (0 : UInt8) ++ tl N k)[j] = z at hc1
      have hidx := fun w => hex_index (N / 16 ^ k % 16) (Nat.mod_lt _ (by omega)) w
      have R : HxRel w w.heap.size N m (k + 1) (wr.setCell ⟨w.heap.size, j, none⟩ (.int .u8 ((hexC (N / 16 ^ k % 16)).toNat : Int))) := ⟨hst, k2.setCell (Nat.le_refl _) _⟩
      clear hj hlen hst hz k1 k2
      go_wp2_with fail
      refine (digitAt_any _ _ _ _ k _ _ hrd (by omega)).mono ?_
      rintro e w' ⟨rfl, rfl⟩
      rw [HN.out]
      generalize hd : N / 16 ^ k % 16 = d at *
      go_wp2
      go_roundw
      case rel => exact ⟨k + 1, by omega, by go_num, R⟩
      case measure => simp [intOf]; omega
    · obtain rfl : m = k := by omega
      rw [Nat.sub_self] at k1
      have hcv := conv_back (n := m) k1 (by simp [tl_length])
      go_wp2
      go_ret
      exact ⟨by simp, k2⟩

theorem hex_small {N : Nat} (h : N < 16) : tl N (hexN N) = [hexC N] := by
  have hb : bl N ≤ 4 := bl_le (by omega)
  have : hexN N = 1 := by unfold hexN; omega
  rw [this]
  show [hexC (N / 16 ^ 0 % 16)] = [hexC N]
  rw [Nat.pow_zero, Nat.div_one, Nat.mod_eq_of_lt h]

set_option maxHeartbeats 1000000 in
theorem Hex_less (A : Option Addr) (n c : Nat) (l : List Int) (w : World) (h : Rd w w.heap.size A n c l) (hlt : vl Wd l < 16) :
    Calls Try.prog 41 #[.slice A n c] w fun e w' => e = .returned (.string ⟨(tl (vl Wd l) (hexN (vl Wd l))).toArray⟩) ∧ Below w.heap.size w w' := by
  rw [hex_small hlt]
  have hbl : bl (vl Wd l) ≤ 4 := bl_le (by omega)
  generalize hβ : bl (vl Wd l) = β at *
  have HB := Lib.hid hβ; clear hβ
  generalize hN : vl Wd l = N at *
  have HN := Lib.hid hN; clear hN
  have hidx := fun w => hex_index N hlt w
  have hdig : N / 16 ^ 0 % 16 = N := by rw [Nat.pow_zero, Nat.div_one, Nat.mod_eq_of_lt hlt]
  have HD := Lib.hid hdig; clear hdig
  have hq : ((β : Int) + 4 - 1) / 4 = 0 ∨ ((β : Int) + 4 - 1) / 4 = 1 := by omega
  go_enter Try.func41, Try.ntmps41
  go_wp2_with fail
  refine (BitLen_any _ _ _ _ _ _ h).mono ?_
  rintro e w' ⟨rfl, rfl⟩
  rw [HN.out, HB.out]
  rcases hq with hq | hq
  all_goals
    go_wp2_with (at_make; refine wp_make8 rfl _ _ rfl 1 _ _ rfl rfl rfl rfl (by omega) ?_; intro w1 hbk1 hb1)
    have hc1 := hbk1.cell 0 (by simp)
    have hf1 := hbk1.frozen 0
    have hst := hbk1.set 0 (hexC N)
    have hcv := conv_back (n := 1) hst (by simp)
    have hrd := h.below hb1
    clear hbk1
    refine wp_loop_rounds 2 ?_
    rw [rounds_succ]
    go_wp2_with fail
    refine (digitAt_any _ _ _ _ 0 _ _ hrd (by omega)).mono ?_
    rintro e w' ⟨rfl, rfl⟩
    rw [HN.out, HD.out]
    go_wp2
    rw [rounds_succ]
    go_wp2
    go_ret
    exact ⟨by simp, hb1.setCell (Nat.le_refl _) _⟩
theorem Hex_any (A : Option Addr) (n c : Nat) (l : List Int) (w : World) (h : Rd w w.heap.size A n c l) (hn : n ≤ 1099511627776) :
    Calls Try.prog 41 #[.slice A n c] w fun e w' => e = .returned (.string ⟨(tl (vl Wd l) (hexN (vl Wd l))).toArray⟩) ∧ Below w.heap.size w w' := by
  rcases Nat.lt_or_ge (vl Wd l) 16 with h1 | h1
  · exact Hex_less A n c l w h h1
  · exact Hex_more A n c l w h hn h1
end Go.Proofs.Ytniippglkboieaa
