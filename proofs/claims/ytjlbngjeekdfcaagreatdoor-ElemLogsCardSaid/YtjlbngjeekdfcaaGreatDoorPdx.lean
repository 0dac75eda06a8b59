/-
 short: zed: Text.
-/
import Derived.Test.YtjlbngjeekdfcaaGreatDoorPc
import Derived.Test.YtjlbngjeekdfcaaGreatDoorPa
import Derived.Maps.AppendAt
namespace Go.Proofs.YtjlbngjeekdfcaaGreatDoor
variable {A : Option Addr} {N T a c g k m n : Nat} {X : Int} {b : Bool} {w w' : World}
set_option maxRecDepth 100000
set_option maxHeartbeats 4000000
set_option linter.unusedVariables false
def digC (d : Nat) : UInt8 := UInt8.ofNat (48 + d)
def td (N : Nat) : Nat → List UInt8
 | 0 => []
 | k + 1 => digC (N / 10 ^ k % 10) :: td N k
theorem td_length (N k : Nat) : (td N k).length = k := by induction k with | zero => rfl | succ k ih => simp [td, ih]
theorem td_mod (N k : Nat) : td (N % 10 ^ k) k = td N k := by
 have key : ∀ j, j ≤ k → td (N % 10 ^ k) j = td N j := by
  intro j
  induction j with
  | zero => intro _; rfl
  | succ j ih =>
   intro hj
   simp only [td]
   rw [ih (by omega)]
   congr 2
   have e : 10 ^ k = 10 ^ j * (10 * 10 ^ (k - j - 1)) := by
    rw [← Nat.mul_assoc, ← Nat.pow_succ, ← Nat.pow_add]; congr 1; omega
   rw [e, Nat.mod_mul_right_div_self, Nat.mod_mul_right_mod]
 exact key k (Nat.le_refl _)
theorem td_append (N j k : Nat) : td N (j + k) = td (N / 10 ^ k) j ++ td N k := by
 induction j with
 | zero => simp [td]
 | succ j ih =>
  rw [show j + 1 + k = (j + k) + 1 by omega]
  simp only [td, List.cons_append]
  rw [ih, Nat.div_div_eq_div_mul, ← Nat.pow_add, Nat.add_comm k j]
theorem td_snoc (N k : Nat) : td N (k + 1) = td (N / 10) k ++ [digC (N % 10)] := by
 rw [td_append]
 simp [td]
theorem td_half (N D H : Nat) (hD : D = 10 ^ H) : td N (H + H) = td (N / D) H ++ td (N % D) H := by
 subst hD
 rw [td_append, td_mod]
theorem digC_inj {b : Nat} (ha : a < 10) (hb : b < 10) (h : digC a = digC b) : a = b := by
 have := congrArg UInt8.toNat h
 simp only [digC, UInt8.toNat_ofNat'] at this
 omega
theorem digC_zero (ha : a < 10) : digC a = 48 ↔ a = 0 := ⟨fun h => digC_inj ha (by omega) (h.trans rfl), fun h => by subst h; rfl⟩
theorem digC_toNat (ha : a < 10) : (digC a).toNat = 48 + a := by
 simp only [digC, UInt8.toNat_ofNat']; omega
def decL (N : Nat) : List UInt8 := if h : N < 10 then [digC N] else decL (N / 10) ++ [digC (N % 10)]
termination_by N
decreasing_by omega
theorem decL_small (h : N < 10) : decL N = [digC N] := by rw [decL, dif_pos h]
theorem decL_big (h : 10 ≤ N) : decL N = decL (N / 10) ++ [digC (N % 10)] := by rw [decL, dif_neg (by omega)]
theorem decL_pos (N : Nat) : 0 < (decL N).length := by
 by_cases h : N < 10
 ·rw [decL_small h]; simp
 ·rw [decL_big (by omega)]; simp
def lz (l : List UInt8) : Nat := (l.takeWhile (· == 48)).length
theorem lz_le (l : List UInt8) : lz l ≤ l.length := by unfold lz; induction l with | nil => simp | cons x l ih => simp only [List.takeWhile]; split <;> simp <;> omega
theorem drop_lz (l : List UInt8) : l.drop (lz l) = l.dropWhile (· == 48) := by
 unfold lz
 induction l with
 | nil => rfl
 | cons x l ih => simp only [List.takeWhile, List.dropWhile]; split <;> simp_all
theorem td_strip {M : Nat} (h : M < 10 ^ n) : (td M n).dropWhile (· == 48) = if M = 0 then [] else decL M := by
 induction n generalizing M with
 | zero => simp at h; subst h; simp [td]
 | succ n ih =>
  rw [td_snoc]
  have h10 : M / 10 < 10 ^ n := by rw [Nat.div_lt_iff_lt_mul (by omega), ← Nat.pow_succ]; exact h
  have hi := ih h10
  have hd : M % 10 < 10 := Nat.mod_lt _ (by omega)
  rw [List.dropWhile_append, hi]
  by_cases hM : M / 10 = 0
  ·have hs : M < 10 := by omega
   rw [if_pos hM]
   by_cases h0 : M = 0
   ·subst h0; simp [List.dropWhile, digC]
   ·rw [if_neg h0, decL_small hs]
    have : M % 10 = M := by omega
    rw [this]
    have hne : (digC M == 48) = false := by rw [beq_eq_false_iff_ne]; intro hc; exact h0 ((digC_zero hs).1 hc)
    simp [List.dropWhile, hne]
  ·have e2 : (if M = 0 then [] else decL M) = decL (M / 10) ++ [digC (M % 10)] := by rw [if_neg (by omega)]; exact decL_big (by omega)
   rw [if_neg hM, e2]
   have hp := decL_pos (M / 10)
   have : (decL (M / 10)).isEmpty = false := by cases hl : decL (M / 10) with | nil => rw [hl] at hp; simp at hp | cons => rfl
   simp [this]
theorem td_text (h : N < 10 ^ (n + 1)) : (td N (n + 1)).drop (lz ((td N (n + 1)).take n)) = decL N := by
 have ht : (td N (n + 1)).take n = td (N / 10) n := by rw [td_snoc, List.take_append_of_le_length (by rw [td_length]; omega), List.take_of_length_le (by rw [td_length]; omega)]
 rw [ht, td_snoc]
 have h10 : N / 10 < 10 ^ n := by rw [Nat.div_lt_iff_lt_mul (by omega), ← Nat.pow_succ]; exact h
 have hl := lz_le (td (N / 10) n)
 rw [List.drop_append_of_le_length hl, drop_lz, td_strip h10]
 by_cases hM : N / 10 = 0
 ·rw [if_pos hM, decL_small (by omega)]
  have : N % 10 = N := by omega
  rw [this]; rfl
 ·rw [if_neg hM]; exact (decL_big (by omega)).symm
theorem takeWhile_all {l : List UInt8} (hk : k ≤ l.length) (h : ∀ i (hi : i < l.length), i < k → l[i] = 48) (he : ∀ hi : k < l.length, l[k] ≠ 48) : lz l = k := by
 unfold lz
 induction l generalizing k with
 | nil => simp at hk; simp [hk]
 | cons x l ih =>
  rcases k with _ | k
  ·have := he (by simp)
   simp at this
   have hb : (x == 48) = false := beq_eq_false_iff_ne.2 this
   simp [List.takeWhile, hb]
  ·have h0 := h 0 (by simp) (by omega)
   simp at h0
   subst h0
   simp only [List.takeWhile, beq_self_eq_true, List.length_cons]
   rw [ih (k := k) (by simpa using hk) (fun i hi hik => by have := h (i + 1) (by simpa using hi) (by omega); simpa using this) (fun hi => by have := he (by simpa using hi); simpa using this)]
section
open Go.RowKit
theorem zeros_any (s : ByteArray) (w : World) (hs : s.size ≤ 1099511627776) : Calls Tryz.prog 76 #[.string s] w fun e w' => e = .returned (.int .i64 (lz s.data.toList)) ∧ w = w' := by
 have hlen : s.data.toList.length = s.size := by rw [Array.length_toList]; rfl
 have HL := Lib.hid hlen; clear hlen
 go_enter Tryz.func76, Tryz.ntmps76
 go_wp2
 go_loop [3] (fun i => ∃ k : Nat, k ≤ s.size ∧ i = .int .i64 k ∧ Hid (∀ i (hi : i < s.data.toList.length), i < k → s.data.toList[i] = 48)) (fun i => s.size - (intOf i).toNat)
 case atStart => exact ⟨0, Nat.zero_le _, rfl, fun i hi h => absurd h (by omega)⟩
 case round =>
  obtain ⟨k, hk, rfl, hz⟩ := hrel
  by_cases hlt : k < s.size
  ·have hkl : k < s.data.toList.length := by have := HL.out; omega
   have hbj : s.data.toList[k] = s[k] := rfl
   by_cases hx : s[k] = 48
   ·have hn : ((s[k].toNat : Int) == 48) = true := by rw [hx]; rfl
    have R : Hid (∀ i (hi : i < s.data.toList.length), i < k + 1 → s.data.toList[i] = 48) := fun i hi hik => by
     rcases Nat.lt_or_ge i k with h1 | h1
     ·exact hz.out i hi h1
     ·obtain rfl : k = i := by omega
      exact hbj.trans hx
    clear hx hbj
    go_wp2
    go_round
    case rel => exact ⟨k + 1, by omega, by go_num, R⟩
    case measure => simp [intOf]; omega
   ·have hn : ((s[k].toNat : Int) == 48) = false := by
     rw [beq_eq_false_iff_ne]; intro h; exact hx (UInt8.toNat_inj.1 (by rw [show (48 : UInt8).toNat = 48 from rfl]; omega))
    have R : lz s.data.toList = k := takeWhile_all (by omega) hz.out (fun _ => by rw [hbj]; exact hx)
    have HR := Lib.hid R; clear R hx hbj
    go_wp2
    go_ret
    exact ⟨ret_i64 (by rw [HR.out]), rfl⟩
  ·obtain rfl : s.size = k := by omega
   have R : lz s.data.toList = s.size := takeWhile_all (by have := HL.out; omega) hz.out (fun hi => absurd hi (by have := HL.out; omega))
   have HR := Lib.hid R; clear R
   go_wp2
   go_ret
   exact ⟨ret_i64 (by rw [HR.out]), rfl⟩
def WcRel (w : World) (g : Nat) (P W S : List UInt8) (N k : Nat) (lv : Value) (wr : World) : Prop :=
 lv = .int .u64 ((N / 10 ^ k : Nat) : Int) ∧ Bk8 wr g (P ++ ((W.take (W.length - k) ++ td N k) ++ S)) ∧ w.grownBy wr (some g)
theorem wc_step {P W S : List UInt8} (hk : k < W.length) :
  (P ++ ((W.take (W.length - k) ++ td N k) ++ S)).set (P.length + (W.length - 1 - k)) (digC (N / 10 ^ k % 10)) = P ++ ((W.take (W.length - (k + 1)) ++ td N (k + 1)) ++ S) := by
 obtain ⟨m, hm⟩ : ∃ m, W.length = m + 1 + k := ⟨W.length - 1 - k, by omega⟩
 rw [hm, show m + 1 + k - k = m + 1 by omega, show m + 1 + k - 1 - k = m by omega, show m + 1 + k - (k + 1) = m by omega]
 rw [List.set_append_right _ _ (by omega), show P.length + m - P.length = m by omega, List.append_assoc, List.set_append_left _ _ (by simp; omega)]
 have hmW : m < W.length := by omega
 rw [List.take_succ_eq_append_getElem hmW, List.set_append_right _ _ (by simp; omega)]
 simp [td, show min m W.length = m by omega]
theorem dig_val (hN : N < 18446744073709551616) : ∃ x : Int, x = ((N / 10 ^ k : Nat) : Int) ∧ 0 ≤ x ∧ x < 18446744073709551616 ∧ x % 10 = ((N / 10 ^ k % 10 : Nat) : Int) ∧ x / 10 = ((N / 10 ^ (k + 1) : Nat) : Int) := by
 refine ⟨_, rfl, Int.natCast_nonneg _, ?_, by omega, ?_⟩
 ·have := Nat.div_le_self N (10 ^ k); omega
 ·rw [Nat.pow_succ, ← Nat.div_div_eq_div_mul]; omega
theorem writeChunk_any (g off n c : Nat) (P W S : List UInt8) (N : Nat) (w : World) (hbk : Bk8 w g (P ++ (W ++ S))) (hP : P.length = off) (hW : W.length = n) (hn : n ≤ 1000000) (hc : n ≤ c) (hN : N < 18446744073709551616) :
  Calls Tryz.prog 83 #[.slice (some ⟨g, off, none⟩) n c, .int .u64 (N : Int)] w fun e w' => e = .returned (.tuple #[]) ∧ Bk8 w' g (P ++ (td N n ++ S)) ∧ w.grownBy w' (some g) := by
 have HP := Lib.hid hP; have HW := Lib.hid hW; clear hP hW
 have HN := Lib.hid hN; clear hN
 go_enter Tryz.func83, Tryz.ntmps83
 go_wp2
 go_loopw [1, 4, 7] (fun l _ i wr => ∃ k : Nat, k ≤ n ∧ i = .int .i64 k ∧ WcRel w g P W S N k l wr) (fun _ _ i _ => n - (intOf i).toNat)
 case atStart => exact ⟨0, Nat.zero_le _, rfl, by simp, by simpa [td] using hbk, ⟨rfl, rfl, rfl, Nat.le_refl _, fun _ _ _ => rfl⟩⟩
 case round =>
  obtain ⟨k, hk, rfl, rfl, k1, k2⟩ := hrel
  by_cases hkm : k < n
  ·obtain ⟨x, hx, x0, x1, x2, x3⟩ := dig_val (k := k) HN.out
   obtain ⟨j, hj⟩ : ∃ j, n = j + 1 + k := ⟨n - 1 - k, by omega⟩
   have hd : N / 10 ^ k % 10 < 10 := Nat.mod_lt _ (by omega)
   have hlen : off + j < (P ++ ((W.take (W.length - k) ++ td N k) ++ S)).length := by
    have := HP.out; have := HW.out; simp [td_length]; omega
   have hc1 := k1.cell (off + j) hlen
   have hf1 := k1.frozen (off + j)
   have hst := k1.set (off + j) (digC (N / 10 ^ k % 10))
   have e2 : off + j = P.length + (W.length - 1 - k) := by have := HP.out; have := HW.out; omega
   rw [e2, wc_step (by have := HW.out; omega), ← e2] at hst
   have e1 : (n : Int) - 1 - k = j := by omega
   have hjn : (j : Int) < n := by omega
   generalize hz : (P ++ ((W.take (W.length - k) ++ td N k) ++ S))[off + j] = z at hc1
   have hdc := digC_toNat hd
   have e3 : (48 + (N / 10 ^ k % 10 : Nat) : Int) = ((digC (N / 10 ^ k % 10)).toNat : Int) := by omega
   rw [← hx]
   generalize hde : N / 10 ^ k % 10 = d at *
   have w1 : IntKind.u8.wrap (d : Int) = d := by rw [IntKind.wrap_u8]; omega
   have R : WcRel w g P W S N (k + 1) (.int .u64 (x / 10)) (wr.setCell ⟨g, off + j, none⟩ (.int .u8 ((digC d).toNat : Int))) := ⟨by rw [x3], hst, grownBy_trans k2 (grownBy_set _ _ _ _)⟩
   rw [← e3] at R
   clear hst hlen e2 hz k1 k2 hdc e3 x3 hx hde hj
   go_wp2
   go_roundw
   case rel => exact ⟨k + 1, by omega, by go_num, R⟩
   case measure => simp [intOf]; omega
  ·obtain rfl : n = k := by omega
   have k1' : Bk8 wr g (P ++ (td N n ++ S)) := by rw [HW.out, Nat.sub_self, List.take_zero, List.nil_append] at k1; exact k1
   go_wp2
   go_end0
   exact ⟨rfl, k1', k2⟩
end
section
open Go.RowKit
def tp (i : Nat) : Nat := 10 ^ (19 * 2 ^ i)
theorem tp_zero : tp 0 = 10000000000000000000 := rfl
theorem tp_succ (i : Nat) : tp (i + 1) = tp i * tp i := by
 unfold tp; rw [← Nat.pow_add]; congr 1; rw [Nat.pow_succ]; omega
theorem tp_sm (i : Nat) : Sm (tp i) (2 ^ i) := by
 induction i with
 | zero => unfold Sm; rw [tp_zero]; decide
 | succ i ih => rw [tp_succ, Nat.pow_succ, Nat.mul_two]; exact ih.mul ih
theorem tp_pos (i : Nat) : 0 < tp i := Nat.pow_pos (by omega)
def Pw (w : World) (A : Option Addr) (n c : Nat) : Prop :=
 n ≤ c ∧ (0 < n → ∃ b off, A = some ⟨b, off, none⟩ ∧ b < w.heap.size ∧ ∀ k, k < n → ∃ A' n' c', w.cell? ⟨b, off + k, none⟩ = some (.slice A' n' c') ∧ Rd w w.heap.size A' n' c' (dg Wd (tp k)))
theorem Pw.keep (h : Pw w A n c) (hb : Below w.heap.size w w') : Pw w' A n c :=
 ⟨h.1, fun hn => by
  obtain ⟨b, off, e, hlt, hc⟩ := h.2 hn
  refine ⟨b, off, e, Nat.lt_of_lt_of_le hlt hb.size, fun k hk => ?_⟩
  obtain ⟨A', n', c', h1, h2⟩ := hc k hk
  exact ⟨A', n', c', (hb.cell hlt).trans h1, h2.go hb⟩⟩
instance Pw.mv {A : Option Addr} {n c : Nat} {v w : World} : Mv (Pw v A n c) v w (Pw w A n c) := ⟨fun h hb => Pw.keep h hb⟩
theorem Pw.take (h : Pw w A n c) (hm : m ≤ n) : Pw w A m c :=
 ⟨Nat.le_trans hm h.1, fun hn => by
  obtain ⟨b, off, e, hlt, hc⟩ := h.2 (by omega)
  exact ⟨b, off, e, hlt, fun k hk => hc k (by omega)⟩⟩
def Os (w : World) (base : Nat) (v : Value) (l : List Value) : Prop := w.ownsRow base 22 1 v l.length l
theorem Os.one (w : World) (base : Nat) (u : Value) (hb : base ≤ w.heap.size) : Os (w.alloc (.cells #[u] 22)) base (.slice (some ⟨w.heap.size, 0, none⟩) 1 1) [u] :=
 ⟨by simp, .inr ⟨w.heap.size, 1, #[u], rfl, hb, heap_alloc_new w _, Nat.le_refl _, by unfold maxLen; omega, rfl, rfl⟩⟩
theorem Os.at_ {base : Nat} {v : Value} {l : List Value} (h : Os w base v l) (hl : 0 < l.length) : ∃ g cap, v = .slice (some ⟨g, 0, none⟩) l.length cap ∧ base ≤ g ∧ g < w.heap.size ∧ l.length ≤ cap ∧ ∀ k (hk : k < l.length), w.cell? ⟨g, k, none⟩ = some l[k] := by
 rcases h.2 with ⟨_, h2⟩ | ⟨g, cap, cur, hv, hg, hh, hnc, _, _, htk⟩
 ·omega
 ·refine ⟨g, cap, hv, hg, (Array.getElem?_eq_some_iff.1 hh).1, hnc, fun k hk => ?_⟩
  rw [cell_of_row w g k _ _ (0, 0) hh]
  rw [Nat.mul_one] at htk
  have : cur.toList[k]? = some l[k] := by
   rw [← List.getElem?_take_of_lt hk, htk, List.getElem?_eq_getElem hk]
  simpa using this
end
section
open Go.RowKit
def El (w : World) (ov : Value) (k : Nat) (v : Value) : Prop :=
 ∃ A n c, v = .slice A n c ∧ Rd w w.heap.size A n c (dg Wd (tp k)) ∧ (n = 0 ∨ ∃ b off, A = some ⟨b, off, none⟩ ∧ ov.ownBlock ≠ some b)
def TpRel (w : World) (m : Nat) (ov : Value) (wr : World) : Prop :=
 ∃ l : List Value, l.length = m ∧ Os wr w.heap.size ov l ∧ Below w.heap.size w wr ∧ ∀ k (hk : k < l.length), El wr ov k l[k]
def TpPost (w : World) (n : Nat) (e : Ending) (w' : World) : Prop :=
 ∃ A m c, e = .returned (.slice A m c) ∧ Pw w' A m c ∧ 1 ≤ m ∧ n ≤ 19 * 2 ^ m ∧ 19 * 2 ^ m ≤ 2 * n + 38 ∧ Below w.heap.size w w'
theorem TpRel.pw {wr : World} {ov : Value} (h : TpRel w m ov wr) (hm : 0 < m) : ∃ A c, ov = .slice A m c ∧ Pw wr A m c ∧ Below w.heap.size w wr := by
 obtain ⟨l, rfl, h1, h2, h3⟩ := h
 obtain ⟨g, cap, hv, hg, hlt, hcap, hc⟩ := h1.at_ hm
 refine ⟨_, cap, hv, ⟨hcap, fun _ => ⟨g, 0, rfl, hlt, fun k hk => ?_⟩⟩, h2⟩
 obtain ⟨A, n, c, e1, e2, _⟩ := h3 k hk
 refine ⟨A, n, c, ?_, e2⟩
 rw [Nat.zero_add, hc k hk, e1]
theorem tenPowers_any (n : Nat) (w : World) (hn : n ≤ 38) : Calls Tryz.prog 74 #[.int .i64 n] w (TpPost w n) := by
 have hl1 := lay1 w 10000000000000000000 (lm_small (by omega) (by omega))
 have hb1 := below_alloc w (.cells #[.int .u64 10000000000000000000] 67)
 have ho1 := Os.one (w.alloc (.cells #[.int .u64 10000000000000000000] 67)) w.heap.size (.slice (some ⟨w.heap.size, 0, none⟩) 1 1) hb1.size
 rw [show (w.alloc (.cells #[.int .u64 10000000000000000000] 67)).heap.size = w.heap.size + 1 by simp] at ho1
 have hb2 := below_alloc (w.alloc (.cells #[.int .u64 10000000000000000000] 67)) (.cells #[.slice (some ⟨w.heap.size, 0, none⟩) 1 1] 22)
 have hdg : [(10000000000000000000 : Int)] = dg Wd (tp 0) := by rw [tp_zero]; exact (dg_lit1 (by rw [Wd_eq]; decide) (by decide)).symm
 have h0 : TpRel w 1 (.slice (some ⟨w.heap.size + 1, 0, none⟩) 1 1) ((w.alloc (.cells #[.int .u64 10000000000000000000] 67)).alloc (.cells #[.slice (some ⟨w.heap.size, 0, none⟩) 1 1] 22)) := by
  refine ⟨_, rfl, ho1, bthen hb1 hb2, fun k hk => ?_⟩
  obtain rfl : 0 = k := by simp at hk; omega
  refine ⟨_, _, _, rfl, ?_, .inr ⟨_, _, rfl, ?_⟩⟩
  ·rw [← hdg]; exact hl1.go hb2
  ·simp [Value.ownBlock]
 have H0 := Lib.hid h0
 clear h0 hdg hb2 ho1 hb1 hl1
 go_enter Tryz.func74, Tryz.ntmps74
 go_wp2
 go_loopw [3, 4, 5] (fun ov sv _ wr => ∃ t s : Nat, sv = .int .i64 s ∧ s = 19 * 2 ^ (t + 1) ∧ s ≤ 2 * n + 38 ∧ TpRel w (t + 1) ov wr) (fun _ sv _ _ => n - (intOf sv).toNat)
 case atStart => exact ⟨0, 38, rfl, rfl, by omega, H0.out⟩
 case round =>
  obtain ⟨t, s, rfl, hs, hsn, hR⟩ := hrel
  have ht : t < 2 ^ t := Nat.lt_two_pow_self
  have hp1 : (2 : Nat) ^ (t + 1) = 2 * 2 ^ t := by rw [Nat.pow_succ]; omega
  have hs1 : 38 ≤ s := by omega
  have hp2 : 2 ^ t ≤ s := by omega
  have hts : t ≤ s := by omega
  have hs2 : 2 * s = 19 * 2 ^ (t + 1 + 1) := by rw [Nat.pow_succ 2 (t + 1)]; omega
  have HS := Lib.hid hs; have HS2 := Lib.hid hs2
  clear hs hs2 hp1
  by_cases hlt : s < n
  ·exfalso; omega
  ·obtain ⟨A, c, rfl, hpw, hb⟩ := hR.pw (by omega)
   go_wp2
   go_ret
   exact ⟨_, _, _, rfl, hpw, by omega, by rw [← HS.out]; omega, by rw [← HS.out]; exact hsn, hb⟩
end
section
open Go.RowKit
theorem Bk8.not64 {L : List UInt8} (h : Bk8 w g L) {o : Nat} {x : Int} : w.cell? ⟨g, o, none⟩ ≠ some (.int .u64 x) := by
 unfold Bk8 at h
 rw [cell_of_row w g o _ _ (0, 0) h]
 simp only [List.getElem?_toArray, List.getElem?_map]
 cases L[o]? <;> simp [byteV]
theorem Bk8.notS {L : List UInt8} (h : Bk8 w g L) {o : Nat} {A : Option Addr} {n c : Nat} : w.cell? ⟨g, o, none⟩ ≠ some (.slice A n c) := by
 unfold Bk8 at h
 rw [cell_of_row w g o _ _ (0, 0) h]
 simp only [List.getElem?_toArray, List.getElem?_map]
 cases L[o]? <;> simp [byteV]
theorem Rd.by8 {l : List Int} {L : List UInt8} (h : Rd w w.heap.size A n c l) (hk : Bk8 w g L) (hg : w.grownBy w' (some g)) : Rd w' w'.heap.size A n c l := by
 refine ⟨h.1, h.2.1, h.2.2.1, h.2.2.2.1, fun hn => ?_⟩
 obtain ⟨b, off, e, hb, hc⟩ := h.at_ hn
 refine ⟨b, off, e, Nat.lt_of_lt_of_le hb hg.size, fun k hkl => ?_⟩
 rw [← hc k hkl]
 refine World.cell?_of_block (hg.block b hb (fun e2 => ?_))
 injection e2 with e2
 subst e2
 exact hk.not64 (hc k hkl)
theorem Pw.by8 {L : List UInt8} (h : Pw w A n c) (hk : Bk8 w g L) (hg : w.grownBy w' (some g)) : Pw w' A n c := by
 refine ⟨h.1, fun hn => ?_⟩
 obtain ⟨b, off, e, hb, hc⟩ := h.2 hn
 refine ⟨b, off, e, Nat.lt_of_lt_of_le hb hg.size, fun k hkn => ?_⟩
 obtain ⟨A', n', c', h1, h2⟩ := hc k hkn
 refine ⟨A', n', c', ?_, h2.by8 hk hg⟩
 rw [← h1]
 refine World.cell?_of_block (hg.block b hb (fun e2 => ?_))
 injection e2 with e2
 subst e2
 exact hk.notS h1
theorem grow_of_below (hb : Below w.heap.size w w') (g : Nat) : w.grownBy w' (some g) := ⟨hb.os, hb.tape, hb.output, hb.size, fun k hk _ => hb.block k hk⟩
theorem Bk8.drw {L : List UInt8} (h : Bk8 w g L) : Bk8 w.drew g L := h
theorem Pw.drw (h : Pw w A n c) : Pw w.drew A n c := h
theorem grown_undrew {a b : World} {r : Option Nat} (h : a.drew.grownBy b r) : a.grownBy b r := ⟨h.os, h.tape, h.output, h.size, h.block⟩
def WdPost (w : World) (g : Nat) (P S : List UInt8) (N n : Nat) (e : Ending) (w' : World) : Prop := e = .returned (.tuple #[]) ∧ Bk8 w' g (P ++ (td N n ++ S)) ∧ w.grownBy w' (some g)
theorem writeDigits_any (m : Nat) : ∀ (g off n c : Nat) (P W S : List UInt8) (A : Option Addr) (n1 c1 : Nat) (l : List Int) (A2 : Option Addr) (c2 : Nat) (w : World), Bk8 w g (P ++ (W ++ S)) → P.length = off → W.length = n → n = 19 * 2 ^ m → n ≤ 1000000 → n ≤ c →
  Rd w w.heap.size A n1 c1 l → n1 ≤ 1000000 → vl Wd l < 10 ^ n → Pw w A2 m c2 →
  Calls Tryz.prog 75 #[.slice (some ⟨g, off, none⟩) n c, .slice A n1 c1, .slice A2 m c2] w (WdPost w g P S (vl Wd l) n) := by
 induction m with
 | zero =>
  intro g off n c P W S A n1 c1 l A2 c2 w hbk hP hW hnm hn hc hrd hn1 hN hpw
  rw [Nat.pow_zero, Nat.mul_one] at hnm
  subst hnm
  have hN2 : vl Wd l < 18446744073709551616 := Nat.lt_trans hN (by decide)
  have hlow := lowI_vl hrd.lim (by rw [Wd_eq]; exact hN2)
  have HN2 := Lib.hid hN2; have HL := Lib.hid hlow; have HP := Lib.hid hP; have HW := Lib.hid hW
  clear hN2 hlow hP hW hN
  go_enter Tryz.func75, Tryz.ntmps75
  go_wp2_with fail
  refine (lowLimb_any _ _ _ _ _ _ hrd).mono ?_
  rintro e w' ⟨rfl, rfl⟩
  rw [HL.out]
  go_wp2_with fail
  refine (writeChunk_any g off 19 c P W S (vl Wd l) _ hbk HP.out HW.out (by omega) hc HN2.out).mono ?_
  rintro e w1 ⟨rfl, k1, k2⟩
  go_wp2
  go_end0
  exact ⟨rfl, k1, k2⟩
 | succ m ih =>
  intro g off n c P W S A n1 c1 l A2 c2 w hbk hP hW hnm hn hc hrd hn1 hN hpw
  obtain ⟨H, hH⟩ : ∃ H, H = 19 * 2 ^ m := ⟨_, rfl⟩
  have hnH : n = H + H := by rw [hnm, hH, Nat.pow_succ]; omega
  have hD : tp m = 10 ^ H := by rw [hH]; rfl
  obtain ⟨K, hK1, hK2⟩ : ∃ K, n1 ≤ K ∧ K ≤ 1000000 := ⟨_, Nat.le_refl _, hn1⟩
  have hsN := Sm.of hrd hK1
  have hm2 : 2 ^ m ≤ H := by omega
  have hH0 : 0 < H := Nat.lt_of_lt_of_le (Nat.two_pow_pos m) hm2
  have hmb : m ≤ 1000000 := by have := Nat.lt_two_pow_self (n := m); omega
  obtain ⟨hcap2, hpw2⟩ := id hpw
  obtain ⟨pb, po, rfl, hpb, hpc⟩ := hpw2 (by omega)
  obtain ⟨Ap, np, cp, hcell, hrp⟩ := hpc m (by omega)
  have hnp : np ≤ 1000000 := Nat.le_trans (hrp.small (tp_sm m)) (by omega)
  have hbk1 : Bk8 w g (P ++ (W.take H ++ (W.drop H ++ S))) := by rw [← List.append_assoc (W.take H), List.take_append_drop]; exact hbk
  have hW1 : (W.take H).length = H := by rw [List.length_take]; omega
  have hW2 : (W.drop H).length = H := by rw [List.length_drop]; omega
  have htd := td_half (vl Wd l) (tp m) H hD
  have hq1 : vl Wd l / tp m < 10 ^ H := by rw [Nat.div_lt_iff_lt_mul (tp_pos m), ← hD, hD, ← Nat.pow_add, ← hnH]; exact hN
  have hq2 : vl Wd l % tp m < 10 ^ H := by rw [← hD]; exact Nat.mod_lt _ (tp_pos m)
  have hsQ : Sm (vl Wd l / tp m) K := hsN.div _
  have hsR : Sm (vl Wd l % tp m) K := hsN.mod
  have htp0 := tp_pos m
  have HP := Lib.hid hP; have HTD := Lib.hid htd; have HH := Lib.hid hH; have HQ1 := Lib.hid hq1; have HQ2 := Lib.hid hq2
  have HW1 := Lib.hid hW1; have HW2 := Lib.hid hW2; have HSQ := Lib.hid hsQ; have HSR := Lib.hid hsR; have HT0 := Lib.hid htp0; have HIH := Lib.hid ih; have HnH := Lib.hid hnH
  have hnH2 : n - H = H := by omega
  have HnH2 := Lib.hid hnH2; clear hnH2
  have e1 : (n : Int) / 2 = H := by omega
  have e0 : ((↑(m + 1) : Int) == 0) = false := by simp; omega
  have e2 : ((m + 1 : Nat) : Int) - 1 = m := by omega
  have e3 : (m : Int) < ((m + 1 : Nat) : Int) := by omega
  have hHc : H ≤ c := by omega
  have hHn : H ≤ n := by omega
  have hHlt : H < n := by omega
  have hHne : ¬ c = H := by omega
  have hmc : m ≤ c2 := by omega
  clear hbk hP hW hnm hN hsN htd hq1 hq2 hW1 hW2 hsQ hsR htp0 ih hH hnH hD hpc hpw2 hm2
  generalize hNe : vl Wd l = N at *
  have HN := Lib.hid hNe; clear hNe
  go_enter Tryz.func75, Tryz.ntmps75
  go_wp2_with fail
  refine (DivMod_any _ _ _ _ _ _ _ _ _ hrd hrp (by omega) (by rw [vl_dg Wd2]; exact HT0.out)).mono ?_
  rintro e w1 ⟨A3, n3, c3, A4, n4, c4, rfl, g3, g4, hb1⟩
  rw [HN.out, vl_dg Wd2] at g3 g4
  have hn3 := g3.small HSQ.out
  have hn4 := g4.small HSR.out
  have k1 : Bk8 w1 g _ := hbk1.below hb1 hbk1.lt
  have hpw1 := hpw.keep hb1
  clear hbk1 hpw hrd hrp hcell
  go_wp2_with fail
  go_region_held3 (fun _ => True) (trivial) (first | (go_at_call 75; (with_reducible refine (HIH.out g off H c P (W.take H) (W.drop H ++ S) A3 n3 c3 _ (some ⟨pb, po, none⟩) c2 _ k1.drw HP.out HW1.out HH.out (by omega) (by omega) g3.drw (by omega) (by rw [vl_dg Wd2]; exact HQ1.out) (hpw1.take (Nat.le_succ m)).drw).mono ?_); rintro e w2 ⟨rfl, k2, q2⟩))
  replace q2 := grown_undrew q2
  have g4 := g4.by8 k1 q2
  have hpw2 := hpw1.by8 k1 q2
  rw [vl_dg Wd2, ← List.append_assoc] at k2
  have hPl : (P ++ td (N / tp m) H).length = off + H := by rw [List.length_append, td_length, HP.out]
  have HPl := Lib.hid hPl; clear hPl
  clear k1 hpw1 g3
  go_wp2_with fail
  go_region_held3 (fun _ => True) (trivial) (first | (go_at_call 75; (with_reducible refine (HIH.out g (off + H) (n - H) (c - H) (P ++ td (N / tp m) H) (W.drop H) S A4 n4 c4 _ (some ⟨pb, po, none⟩) c2 _ k2.drw HPl.out (by rw [HnH2.out]; exact HW2.out) (by rw [HnH2.out]; exact HH.out) (by omega) (by omega) g4.drw (by omega) (by rw [vl_dg Wd2, HnH2.out]; exact HQ2.out) (hpw2.take (Nat.le_succ m)).drw).mono ?_); rintro e w3 ⟨rfl, k3, q3⟩))
  replace q3 := grown_undrew q3
  go_wp2
  go_end0
  refine ⟨rfl, ?_, grownBy_trans (grow_of_below hb1 g) (grownBy_trans q2 q3)⟩
  rw [HnH.out, HTD.out, List.append_assoc, ← List.append_assoc P]
  rw [vl_dg Wd2, HnH2.out] at k3
  exact k3
end
section
open Go.RowKit
def txL (X : Int) : List UInt8 := (if X < 0 then [45] else []) ++ decL X.natAbs
theorem dec_bound {N n m : Nat} (hn : bl N / 3 + 1 ≤ n) (hm : n ≤ m) : N < 10 ^ m := by
 have h1 := lt_bl N
 have h2 : 2 ^ bl N ≤ 2 ^ (3 * n) := Nat.pow_le_pow_right (by omega) (by omega)
 have h3 : (2 : Nat) ^ (3 * n) = 8 ^ n := by rw [Nat.pow_mul]
 have h4 : 8 ^ n ≤ 10 ^ n := Nat.pow_le_pow_left (by omega) n
 have h5 : 10 ^ n ≤ 10 ^ m := Nat.pow_le_pow_right (by omega) hm
 omega
theorem pow_bound (h : T = 19 * 2 ^ m) (hT : T ≤ 1000000000) : m ≤ 60 := by
 rcases Nat.lt_or_ge m 61 with h1 | h1
 ·omega
 ·have : 2 ^ 60 ≤ 2 ^ m := Nat.pow_le_pow_right (by omega) (by omega)
  rw [show (2 : Nat) ^ 60 = 1152921504606846976 from rfl] at this
  omega
theorem sh_val (h : T = 19 * 2 ^ m) (hT : T ≤ 1000000000) : wrap64 (19 * 2 ^ m) = (T : Int) := by
 have e : (19 * 2 ^ m : Int) = (T : Int) := by rw [h, Int.natCast_mul, Int.natCast_pow]; rfl
 rw [e]
 exact IntWalk.wrap64_in _ (by omega)
theorem ext_list (s : ByteArray) (a b : Nat) : (s.extract a b).data.toList = (s.data.toList.take b).drop a := by
 rw [ByteArray.data_extract, Array.toList_extract, List.extract_eq_drop_take', List.drop_take]
theorem bytes_ext {s : ByteArray} {l : List UInt8} (h : s.data.toList = l) : s = ⟨l.toArray⟩ := by
 subst h
 obtain ⟨d⟩ := s
 simp
theorem Bx.by_ (h : Bx w g b A n c) (hg : w.grownBy w' (some k)) (hne : g ≠ k) : Bx w' g b A n c := (hg.block g h.lt (fun e => by injection e with e; exact hne e)).trans h
theorem Zr.by8 {L : List UInt8} (h : Zr w b A n c X k) (hk : Bk8 w g L) (hg : w.grownBy w' (some g)) : Zr w' b A n c X k := by
 obtain ⟨l, h1, h2, h3⟩ := h; exact ⟨l, h1.by8 hk hg, h2, h3⟩
theorem str_ret {s t : ByteArray} (h : s = t) : Ending.returned (.string s) = .returned (.string t) := by rw [h]
theorem ZText_low {j : Nat} (h : Zr w b A n c X j) (hj : j ≤ 1000) (h0 : 0 ≤ X) (hs : bl X.natAbs ≤ 100) :
  Calls Tryz.prog 60 #[.agg #[.bool b, .slice A n c]] w fun e w' => e = .returned (.string ⟨(txL X).toArray⟩) ∧ Below w.heap.size w w' := by
 obtain ⟨l, h9, hX9, hn⟩ := id h
 have hab : X.natAbs = vl Wd l := by rw [← hX9, zi_abs]
 have hs2 : bl (vl Wd l) ≤ 100 := by rw [← hab]; exact hs
 clear hs
 have hdb := fun m => @dec_bound (vl Wd l) (bl (vl Wd l) / 3 + 1) m (Nat.le_refl _)
 have HAB := Lib.hid hab; have HDB := Lib.hid hdb; clear hab hdb hX9
 rw [show txL X = (if X < 0 then [45] else []) ++ decL (vl Wd l) by unfold txL; rw [HAB.out]]
 generalize hN : vl Wd l = N at *
 have HN := Lib.hid hN; clear hN
 generalize hβ : bl N = β at *
 have HB := Lib.hid hβ; clear hβ
 obtain ⟨d, hd⟩ : ∃ d, d = β / 3 + 1 := ⟨_, rfl⟩
 have ed : (β : Int) / 3 + 1 = d := by omega
 have hd1 : d ≤ 34 := by omega
 clear hs2
 have HD := Lib.hid hd; clear hd
 have HBS := Lib.hid (sgnI_is X)
 have hX : ¬ X < 0 := by omega
 clear h0
 have HSG : Hid (¬ sgnI X < 0) := mt sgnI_lt0.1 hX
 rw [if_neg hX]
 clear hX
 go_enter Tryz.func60, Tryz.ntmps60
 go_wp2_with fail
 obtain ⟨hb, x_a⟩ := box1 w b A n c
 generalize w.alloc (.cells #[.bool b, .slice A n c] 24) = v1 at *
 replace h := h.keep hb
 replace h9 := h9.go hb
 have q_a := x_a.al
 go_wp2_with fail
 with_reducible refine (ZBitLen_any h).mono ?_
 rintro e v2 ⟨rfl, hb1⟩
 obtain ⟨x_a, h⟩ := mv2 hb1 x_a h
 replace h9 := h9.go hb1
 replace hb := bthen hb hb1
 clear hb1
 replace q_a := x_a.al
 rw [HAB.out, HB.out]
 go_wp2_with fail
 refine (tenPowers_any d _ (by omega)).mono ?_
 rintro e v9 ⟨A2, m, c2, rfl, hpw, hm1, hdT, hT2, hb1⟩
 obtain ⟨x_a, h⟩ := mv2 hb1 x_a h
 replace h9 := h9.go hb1
 replace hb := bthen hb hb1
 clear hb1
 replace q_a := x_a.al
 have lt_a := x_a.lt
 have le_a : w.heap.size ≤ v9.heap.size := hb.size
 obtain ⟨T, hT⟩ : ∃ T, T = 19 * 2 ^ m := ⟨_, rfl⟩
 rw [← hT] at hdT hT2
 have hm64 : m ≤ 60 := pow_bound hT (by omega)
 have hsh : wrap64 (19 * 2 ^ m) = (T : Int) := sh_val hT (by omega)
 have hNT : N < 10 ^ T := HDB.out T (by have := HD.out; omega)
 have hT1 : 19 ≤ T := by have := Nat.two_pow_pos m; omega
 have HT := Lib.hid hT; have HNT := Lib.hid hNT; clear hT hNT
 replace hT2 : T ≤ 1000000 := Nat.le_trans hT2 (Nat.le_trans (Nat.add_le_add_right (Nat.mul_le_mul_left 2 hd1) 38) (by decide))
 go_wp2_with (at_make; refine wp_make8 rfl _ _ rfl T _ _ rfl rfl hsh hsh (by omega) ?_; intro v10 hbk hb1; obtain ⟨hpw, x_a, h⟩ := mv3 hb1 hpw x_a h; replace h9 := h9.go hb1; replace hb := bthen hb hb1; clear hb1; replace q_a := x_a.al; clear hsh)
 refine (writeDigits_any m _ 0 T T [] (List.replicate T 0) [] A n c l A2 c2 _ (by simpa using hbk) rfl (by simp) HT.out hT2 (Nat.le_refl _) h9 (by omega) (by rw [HN.out]; exact HNT.out) hpw).mono ?_
 rintro e v11 ⟨rfl, k1, q1⟩
 rw [HN.out] at k1
 replace k1 : Bk8 v11 v9.heap.size (td N T) := by simpa using k1
 replace h := h.by8 hbk q1
 replace x_a := x_a.by_ q1 (by omega)
 replace hb := grow_below hb hb.size q1 (by omega)
 replace q_a := x_a.al
 clear hbk h9 hpw q1
 have hcv := conv_back (n := T) k1 (td_length N T)
 obtain ⟨s, hs⟩ : ∃ s : ByteArray, s = ⟨(td N T).toArray⟩ := ⟨_, rfl⟩
 rw [← hs] at hcv
 have hsl : s.data.toList = td N T := by rw [hs]
 have hsz : s.size = T := by rw [hs]; simp [ByteArray.size, td_length]
 have hs1 : s.size ≤ 1000000 := by omega
 have hs2 : 19 ≤ s.size := by omega
 have hz : lz (s.extract 0 (s.size - 1)).data.toList = lz ((td N T).take (T - 1)) := by rw [ext_list, hsl, hsz, List.drop_zero]
 have hzl := lz_le ((td N T).take (T - 1))
 rw [List.length_take] at hzl
 have hzs : lz ((td N T).take (T - 1)) ≤ s.size := by omega
 have hfin : s.extract (lz ((td N T).take (T - 1))) s.size = ⟨(decL N).toArray⟩ := by
  apply bytes_ext
  rw [ext_list, hsl, hsz, show (td N T).take T = td N T from List.take_of_length_le (by rw [td_length]; exact Nat.le_refl _)]
  have ht := td_text (N := N) (n := T - 1) (by rw [show T - 1 + 1 = T by omega]; exact HNT.out)
  rw [show T - 1 + 1 = T by omega] at ht
  exact ht
 have HZ := Lib.hid hz; clear hz hzl hs hsl hsz
 generalize lz ((td N T).take (T - 1)) = Z at *
 have HFIN := Lib.hid hfin; clear hfin
 go_wp2_with fail
 refine (zeros_any _ _ (by rw [ByteArray.size_extract]; omega)).mono ?_
 rintro e w' ⟨rfl, rfl⟩
 rw [HZ.out]
 go_wp2_with fail
 with_reducible refine (ZSign_any h (by omega)).mono ?_
 rintro e v3 ⟨rfl, hb1⟩
 obtain ⟨x_a, h⟩ := mv2 hb1 x_a h
 replace hb := bthen hb hb1
 clear hb1
 replace q_a := x_a.al
 have hsg := HSG.out
 have hbs := HBS.out
 clear HSG HBS
 generalize sgnI X = s9 at *
 go_wp2
 go_ret
 exact ⟨str_ret HFIN.out, hb⟩
end
end Go.Proofs.YtjlbngjeekdfcaaGreatDoor
