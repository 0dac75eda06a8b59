/-
  The document's answer for zed: Sign, Cmp, Same, BitLen, Shl, Shr.
-/
import Derived.Test.YtbpamkpclofnbaaGreatPb
import Derived.Deep.AppendLies
import Derived.Test.YtbpamkpclofnbaaGreatPc
namespace Go.Proofs.YtbpamkpclofnbaaGreat
section
set_option maxRecDepth 100000
open Go.RowKit
set_option linter.unusedVariables false

def Hb : Nat := 4294967296
theorem Hb_eq : Hb = 4294967296 := rfl
theorem Hb2 : 2 ≤ Hb := by decide
theorem Hb0 : 0 < Hb := Nat.lt_of_lt_of_le (by omega) Hb2
theorem Hb_sq : Hb * Hb = Wd := by decide
theorem Hb_pow (k : Nat) : Hb ^ (2 * k) = Wd ^ k := by rw [Nat.pow_mul, show Hb ^ 2 = Wd by rw [Nat.pow_two]; exact Hb_sq]
theorem Lim_Wd {l : List Int} (h : Lim Hb l) : Lim Wd l := fun x hx => by
  have := h x hx
  rw [Hb_eq] at this
  rw [Wd_eq]; omega
theorem dig_lt {x : Int} (h : 0 ≤ x ∧ x < (Hb : Int)) : 0 ≤ x ∧ x < 4294967296 := by rw [Hb_eq] at h; omega

/-- What a function of digits hands back. -/
def OutH (w : World) (N : Nat) (e : Ending) (w' : World) : Prop := ∃ A n c, e = .returned (.slice A n c) ∧ Rd w' w'.heap.size A n c (dg Hb N) ∧ Below w.heap.size w w'

theorem Rd.trimmedB {b : Nat} (hb : 2 ≤ b) {w : World} {B n c : Nat} {A : Option Addr} {l : List Int} (h : Rd w B A n c l) (hl : Lim b l) {k : Nat} (hk : k ≤ n) (hz : ∀ j (hj : j < l.length), k ≤ j → l[j] = 0)
    (ht : ∀ hh : 0 < k, ∃ hj : k - 1 < l.length, l[k - 1] ≠ 0) : Rd w B A k c (dg b (vl b l)) := by
  rw [dg_take hb hl (by have := h.len; omega) hz (fun hh => (ht hh).2)]
  exact h.take hk

set_option maxHeartbeats 400000 in
theorem Trim_any (A : Option Addr) (n c : Nat) (l : List Int) (w : World) (B : Nat) (h : Rd w B A n c l) (hl : Lim Hb l) :
    Calls Tryz.prog 155 #[.slice A n c] w fun e w' => ∃ n', e = .returned (.slice A n' c) ∧ n' ≤ n ∧ Rd w B A n' c (dg Hb (vl Hb l)) ∧ w = w' := by
  have hcap := h.cap
  have hbig := h.big
  have H := Lib.hid h.len
  go_enter Tryz.func155, Tryz.ntmps155
  go_wp2
  go_loop [3] (fun i => ∃ k : Nat, k ≤ n ∧ i = .int .i64 k ∧ Hid (∀ j (hj : j < l.length), k ≤ j → l[j] = 0)) (fun i => (intOf i).toNat)
  case atStart => exact ⟨n, Nat.le_refl _, rfl, fun j hj hk => by have := H.out; omega⟩
  case round =>
    obtain ⟨k, hk, rfl, hz⟩ := hrel
    rcases k with _ | k
    · go_wp2
      all_goals go_ret
      all_goals exact ⟨_, rfl, Nat.zero_le _, h.trimmedB Hb2 hl (k := 0) (by omega) hz.out (fun hh => absurd hh (by omega)), rfl⟩
    · obtain ⟨b, off, rfl, hb, hc⟩ := h.at_ (by omega)
      have hkl : k < l.length := by have := H.out; omega
      have hck := hc k hkl
      clear hc
      generalize hx : l[k] = x at hck
      have Hx := Lib.hid hx; clear hx
      have hkc : k + 1 ≤ c := by omega
      go_wp2
      · have h0 : (x == 0) = true := by assumption
        have h1 : l[k] = 0 := Hx.out.trans (by simpa using h0)
        go_round
        case rel => exact ⟨k, by omega, rfl, trim_zeros H.out hz.out hkl h1⟩
        case measure => simp [intOf]
      · have h0 : (x == 0) = false := by assumption
        have h1 : l[k] ≠ 0 := fun e => by rw [Hx.out] at e; simp [e] at h0
        go_ret
        exact ⟨_, rfl, by omega, h.trimmedB Hb2 hl (k := k + 1) (by omega) hz.out (fun _ => ⟨hkl, h1⟩), rfl⟩

/-- Two digits a limb. -/
def DgInv (T : Nat) (l : List Int) (k : Nat) (L : List Int) : Prop := L.length = T ∧ Lim Hb L ∧ vl Hb (L.take (2 * k)) = vl Wd (l.take k)
theorem DgInv.step {T : Nat} {l L : List Int} {k : Nat} (h : DgInv T l k L) (hl : Lim Wd l) (hk : k < l.length) (hT : 2 * k + 1 < L.length) :
    DgInv T l (k + 1) ((L.set (2 * k) (l[k] % 4294967296)).set (2 * k + 1) (l[k] / 4294967296)) := by
  obtain ⟨h1, h2, h3⟩ := h
  have hx := hl.get hk
  have hs := vl_take_succ Wd l k hk
  generalize l[k] = x at *
  have b0 : 0 ≤ x % 4294967296 ∧ x % 4294967296 < (Hb : Int) := by rw [Hb_eq]; omega
  have b1 : 0 ≤ x / 4294967296 ∧ x / 4294967296 < (Hb : Int) := by rw [Wd_eq] at hx; rw [Hb_eq]; omega
  refine ⟨by simpa using h1, (h2.set _ b0).set _ b1, ?_⟩
  have e1 := vl_take_succ Hb ((L.set (2 * k) (x % 4294967296)).set (2 * k + 1) (x / 4294967296)) (2 * k + 1) (by simpa using hT)
  have e2 := vl_take_succ Hb ((L.set (2 * k) (x % 4294967296)).set (2 * k + 1) (x / 4294967296)) (2 * k) (by simp; omega)
  rw [List.getElem_set_self] at e1
  have t1 : ((L.set (2 * k) (x % 4294967296)).set (2 * k + 1) (x / 4294967296)).take (2 * k) = L.take (2 * k) := by
    rw [List.take_set_of_le (by omega), List.take_set_of_le (Nat.le_refl _)]
  rw [t1, List.getElem_set_ne (by omega), List.getElem_set_self] at e2
  rw [show 2 * (k + 1) = 2 * k + 1 + 1 by omega, e1, e2, h3, hs, Nat.pow_succ, Hb_pow]
  have e3 : (x % 4294967296).toNat + Hb * (x / 4294967296).toNat = x.toNat := by rw [Hb_eq]; omega
  rw [Nat.mul_assoc, ← e3, Nat.mul_add]
  omega
theorem div32 {x : Int} (hx : Lm x) : x.tmod 4294967296 = x % 4294967296 ∧ IntKind.u64.wrap (x.tdiv 4294967296) = x / 4294967296 := by
  refine ⟨Int.tmod_eq_emod_of_nonneg hx.1, ?_⟩
  unfold Lm at hx
  rw [Wd_eq] at hx
  rw [Int.tdiv_eq_ediv_of_nonneg hx.1, wrap_u64]
  omega
def DgRel (w : World) (g T : Nat) (l : List Int) (k : Nat) (wr : World) : Prop := ∃ L, DgInv T l k L ∧ Bk wr g L ∧ Below w.heap.size w wr

set_option maxHeartbeats 1000000 in
theorem Digits_any (A : Option Addr) (n c : Nat) (l : List Int) (w : World) (h : Rd w w.heap.size A n c l) (hn : n ≤ 1099511627776) :
    Calls Tryz.prog 146 #[.slice A n c] w (OutH w (vl Wd l)) := by
  have H := Lib.hid h.len
  obtain ⟨T, hT⟩ : ∃ T, T = 2 * n := ⟨_, rfl⟩
  have eT : 2 * (n : Int) = T := by omega
  have hTb : T ≤ 2199023255552 := by omega
  have HT := Lib.hid hT; clear hT
  go_enter Tryz.func146, Tryz.ntmps146
  go_wp2_with (at_make; refine wp_make64 rfl _ _ rfl T _ _ rfl rfl (by omega) (by omega) (by omega) ?_; intro w1 hbk1 hb1)
  go_loopw [4] (fun i wr => ∃ k : Nat, k ≤ n ∧ i = .int .i64 k ∧ DgRel w w.heap.size T l k wr) (fun i _ => n - (intOf i).toNat)
  case atStart => exact ⟨0, Nat.zero_le _, rfl, _, ⟨by simp, Lim_replicate Hb0 _, by simp [vl]⟩, hbk1, hb1⟩
  case round =>
    obtain ⟨k, hk, rfl, L, k1, k2, k3⟩ := hrel
    clear hbk1 hb1
    by_cases hkn : k < n
    · obtain ⟨b, of, rfl, hb, hc⟩ := (h.below k3).at_ (by omega)
      have hkl : k < l.length := by have := H.out; omega
      have hLT := k1.1
      have hk1 : 2 * k + 1 < L.length := by have := HT.out; omega
      have hcx := hc k hkl
      have hx : 0 ≤ l[k] := (h.lim.get hkl).1
      have hst := k1.step h.lim hkl hk1
      have c0 := k2.cell (2 * k) (by omega)
      have f0 := k2.frozen (2 * k)
      have c1 := k2.cell (2 * k + 1) (by omega)
      have f1 := k2.frozen (2 * k + 1)
      have s1 := (k2.set (2 * k) (l[k] % 4294967296)).set (2 * k + 1) (l[k] / 4294967296)
      have b3 := (k3.setCell (p := ⟨w.heap.size, 2 * k, none⟩) (Nat.le_refl _) (.int .u64 (l[k] % 4294967296))).setCell (p := ⟨w.heap.size, 2 * k + 1, none⟩) (Nat.le_refl _) (.int .u64 (l[k] / 4294967296))
      have hxl : Lm l[k] := h.lim.get hkl
      clear hc
      generalize l[k] = x at *
      generalize L[2 * k]'(by omega) = z0 at c0
      generalize L[2 * k + 1]'hk1 = z1 at c1
      have R : DgRel w w.heap.size T l (k + 1) ((wr.setCell ⟨w.heap.size, 2 * k, none⟩ (.int .u64 (x % 4294967296))).setCell ⟨w.heap.size, 2 * k + 1, none⟩ (.int .u64 (x / 4294967296))) := ⟨_, hst, s1, b3⟩
      obtain ⟨e1, e2⟩ := div32 hxl
      obtain ⟨x0, hx0⟩ : ∃ x0, x % 4294967296 = x0 := ⟨_, rfl⟩
      obtain ⟨x1, hx1⟩ : ∃ x1, x / 4294967296 = x1 := ⟨_, rfl⟩
      rw [hx0] at e1 R
      rw [hx1] at e2 R
      have hcx3 : (wr.setCell ⟨w.heap.size, 2 * k, none⟩ (.int .u64 x0)).cell? ⟨b, of + k, none⟩ = _ := (World.cell?_setCell_other wr ⟨w.heap.size, 2 * k, none⟩ ⟨b, of + k, none⟩ _ (fun e => by injection e with e; omega)).trans hcx
      obtain ⟨u, hu⟩ : ∃ u, u = 2 * k := ⟨_, rfl⟩
      have hu2 : 2 * (k : Int) = u := by omega
      have huT : (u : Int) + 1 < T := by have := HT.out; omega
      rw [← hu] at c0 f0 c1 f1 R hcx3
      have HU := Lib.hid hu
      clear hst s1 b3 hu hk1 hLT k2 k3 hxl
      go_wp2
      go_roundw
      case rel => exact ⟨k + 1, by omega, by go_num, R⟩
      case measure => simp [intOf]; omega
    · obtain rfl : n = k := by omega
      obtain ⟨i1, i2, i3⟩ := k1
      rw [List.take_of_length_le (by have := HT.out; omega), List.take_of_length_le (by have := H.out; omega)] at i3
      have hw3 := k2.whole (B := wr.heap.size) (n := T) (c := T) k2.lt i1 (Nat.le_refl _) (by omega) (Lim_Wd i2)
      have H3 := Lib.hid i3
      clear i1 i3
      go_wp2_with fail
      refine (Trim_any _ _ _ _ _ _ hw3 i2).mono ?_
      rintro e w' ⟨n5, rfl, _, hrd5, rfl⟩
      rw [H3.out] at hrd5
      go_wp2
      go_ret
      exact ⟨_, _, _, rfl, hrd5, k3⟩
end
end Go.Proofs.YtbpamkpclofnbaaGreat
namespace Go.Proofs.YtbpamkpclofnbaaGreat
section
set_option maxRecDepth 100000
open Go.RowKit
set_option linter.unusedVariables false

/-- A slice that the call itself has made, of limbs. -/
def Ow (w : World) (base : Nat) (v : Value) (l : List Int) : Prop := w.ownsRow base 69 1 v l.length (l.map (Value.int .u64))
theorem Ow.nil (w : World) (base : Nat) : Ow w base (.slice none 0 0) [] := World.ownsRow_nil _ _ _ _
theorem Ow.alloc {w : World} {base : Nat} {v : Value} {l : List Int} (h : Ow w base v l) (o : Obj) : Ow (w.alloc o) base v l := World.ownsRow.alloc h o
theorem Ow.slice {w : World} {base : Nat} {v : Value} {l : List Int} (h : Ow w base v l) : ∃ A c, v = .slice A l.length c ∧ l.length ≤ c := by
  rcases h.2 with ⟨h1, h2⟩ | ⟨g, cap, cur, hv, _, _, hnc, _⟩
  · exact ⟨none, 0, by rw [h2]; exact h1, by omega⟩
  · exact ⟨_, _, hv, hnc⟩
theorem Ow.rd {w : World} {base : Nat} {v : Value} {l : List Int} (h : Ow w base v l) (hl : Lim Wd l) (hn : l.length ≤ 17592186044416) : ∃ A n c, v = .slice A n c ∧ Rd w w.heap.size A n c l := by
  rcases h.2 with ⟨h1, h2⟩ | ⟨g, cap, cur, hv, hbg, hh, hnc, _⟩
  · have : l = [] := List.eq_nil_of_length_eq_zero h2
    subst this
    exact ⟨_, _, _, h1, Rd.nil⟩
  · refine ⟨_, _, _, hv, rfl, hnc, hn, hl, fun _ => ⟨g, 0, rfl, (Array.getElem?_eq_some_iff.1 hh).1, fun k hk => ?_⟩⟩
    have hc := World.ownsRow.cells h (g := g) (by rw [hv]; rfl) k (.int .u64 l[k]) (by simp [hk])
    rw [← hc]
    unfold Addr.add
    by_cases h0 : k = 0
    · subst h0; simp
    · rw [if_neg h0]

theorem wp_push64 {W : World} {ops : Array Oper} {rest : List Oper} {o : Oper} {a : Act} {Q : Exit → Act → World → Prop} (hg : o.guard = none) (s x : Operand)
    (hop : o.op = .call { callee := .builtin .append, args := #[s, x], argTypes := #[28, 28] }) (base : Nat) (v : Value) (l : List Int) (hs : a.eval s = v) (hown : Ow W base v l)
    (g0 : Nat) (y : Int) (hx : a.eval x = .slice (some ⟨g0, 0, none⟩) 1 1) (hc : W.cell? ⟨g0, 0, none⟩ = some (.int .u64 y)) (hlen : l.length ≤ 8796093022208) (hbase : base ≤ W.heap.size)
    (hK : ∀ v' w', Ow w' base v' (l ++ [y]) → Below base W w' → wpList Tryz.prog ops Q rest (a.put o.dst v') w') : wpList Tryz.prog ops Q (o :: rest) a W := by
  obtain ⟨i0, hi, hz0, hz1, hz2⟩ := info_parts Tryz.info64
  refine wpList_append_own W hg s x 28 hop base 69 i0 (.int .u64 0) 1 8 Tryz.underlying28 hi hz0 hz1 hz2 rfl (by decide) v _ _ hs hown ⟨g0, 0, none⟩ 1 1 [.int .u64 y] hx rfl ?_ ?_ (by unfold maxLen; omega) (by omega) hbase ?_
  · intro j u hj
    match j, hj with
    | 0, hj => simp at hj; subst hj; simpa [Addr.add] using hc
  · intro u hu; simp at hu; subst hu; rfl
  · intro v' w' h1 h2 _
    refine hK v' w' ?_ ⟨h2.os, h2.tape, h2.output, h2.size, fun k hk => h2.block k (by omega) (fun e => by have := (World.ownsRow.lt hown k e.symm).1; omega)⟩
    unfold Ow
    simpa using h1

theorem dg_of_len {b : Nat} (hb : 2 ≤ b) {l : List Int} {N : Nat} (hl : Lim b l) (hv : vl b l = N) (ht : 0 < l.length → b ^ (l.length - 1) ≤ N) : l = dg b N := by
  subst hv
  symm
  refine dg_of hb hl fun x hx h0 => ?_
  subst h0
  rw [List.getLast?_eq_getElem?] at hx
  have hpos : 0 < l.length := by
    rcases Nat.eq_zero_or_pos l.length with h | h
    · have : l = [] := List.eq_nil_of_length_eq_zero h
      subst this; simp at hx
    · exact h
  have hlt : l.length - 1 < l.length := by omega
  rw [List.getElem?_eq_getElem hlt] at hx
  injection hx with hx
  have h1 := vl_split b l (l.length - 1) (by omega)
  rw [vl_drop_step b l _ hlt, hx, List.drop_eq_nil_of_le (by omega)] at h1
  have h2 := vl_lt (hl.take (l.length - 1))
  rw [List.length_take, Nat.min_eq_left (by omega)] at h2
  have h3 := ht hpos
  have e : b ^ (l.length - 1) * ((0 : Int).toNat + b * vl b []) = 0 := by simp [vl]
  omega

theorem Hb_le {m k : Nat} (h : m ≤ 2 * k) : Hb ^ m ≤ Wd ^ k := by rw [← Hb_pow]; exact Nat.pow_le_pow_right Hb0 h
theorem Rd.smallH {w : World} {B n c k N : Nat} {A : Option Addr} (h : Rd w B A n c (dg Hb N)) (hN : Sm N k) : n ≤ 2 * k := by
  rw [← h.len]
  refine dg_len_le Hb2 ?_
  rw [Hb_pow]; exact hN
/-- Limbs under way: i digits are in. -/
def LbInv (d : List Int) (i : Nat) (l : List Int) : Prop := Lim Wd l ∧ vl Wd l = vl Hb (d.take i) ∧ 2 * l.length = i
theorem LbInv.two {d l : List Int} {i : Nat} (h : LbInv d i l) (hd : Lim Hb d) (h1 : i + 1 < d.length) : LbInv d (i + 2) (l ++ [d[i] + 4294967296 * d[i + 1]]) := by
  obtain ⟨k1, k2, k3⟩ := h
  have b0 := dig_lt (hd.get (show i < d.length by omega))
  have b1 := dig_lt (hd.get h1)
  have e1 := vl_take_succ Hb d i (by omega)
  have e2 := vl_take_succ Hb d (i + 1) h1
  generalize d[i] = x at *
  generalize d[i + 1] = y at *
  refine ⟨Lim_append.2 ⟨k1, fun z hz => ?_⟩, ?_, by simp; omega⟩
  · simp at hz; subst hz; rw [Wd_eq]; omega
  · rw [vl_append, vl_one, k2, show i + 2 = i + 1 + 1 by omega, e2, e1, ← Hb_pow, k3, Nat.pow_succ]
    have e3 : (x + 4294967296 * y).toNat = x.toNat + Hb * y.toNat := by rw [Hb_eq]; omega
    rw [e3, Nat.mul_add, Nat.mul_assoc]
    omega
theorem LbInv.one {d l : List Int} {i : Nat} (h : LbInv d i l) (hd : Lim Hb d) (h1 : i + 1 = d.length) : Lim Wd (l ++ [d[i]]) ∧ vl Wd (l ++ [d[i]]) = vl Hb d ∧ 2 * (l ++ [d[i]]).length = d.length + 1 := by
  obtain ⟨k1, k2, k3⟩ := h
  have hi : i < d.length := by omega
  have b0 := dig_lt (hd.get hi)
  have e1 := vl_take_succ Hb d i hi
  rw [List.take_of_length_le (by omega)] at e1
  refine ⟨Lim_append.2 ⟨k1, fun z hz => ?_⟩, ?_, by simp; omega⟩
  · simp at hz; subst hz; rw [Wd_eq]; omega
  · rw [vl_append, vl_one, k2, e1, ← Hb_pow, k3]
theorem limbs_end {N : Nat} {l : List Int} (hl : Lim Wd l) (hv : vl Wd l = N) (hn : 2 * l.length ≤ (dg Hb N).length + 1) : l = dg Wd N := by
  refine dg_of_len Wd2 hl hv fun hp => ?_
  have h1 := dg_len_ge Hb2 (n := N) (by omega)
  rw [← Hb_pow]
  exact Nat.le_trans (Nat.pow_le_pow_right Hb0 (by omega)) h1
def LbRel (w : World) (d : List Int) (ov : Value) (i : Nat) (wr : World) : Prop := ∃ l, LbInv d i l ∧ Ow wr w.heap.size ov l ∧ Below w.heap.size w wr
def LbEnd (w : World) (N : Nat) (ov : Value) (wr : World) : Prop := Ow wr w.heap.size ov (dg Wd N) ∧ Below w.heap.size w wr

set_option maxHeartbeats 2000000 in
theorem Limbs_any (A : Option Addr) (n c : Nat) (l0 : List Int) (w : World) (h : Rd w w.heap.size A n c l0) (hl0 : Lim Hb l0) (hn : n ≤ 1099511627776) :
    Calls Tryz.prog 144 #[.slice A n c] w (Out w (vl Hb l0)) := by
  generalize hN : vl Hb l0 = N at *
  have HN := Lib.hid hN; clear hN
  go_enter Tryz.func144, Tryz.ntmps144
  go_wp2_with fail
  refine (Trim_any _ _ _ _ _ _ h hl0).mono ?_
  rintro e w' ⟨m, rfl, hmn, hrd, rfl⟩
  rw [HN.out] at hrd
  have hd := Lim_dg Hb2 N
  have H := Lib.hid hrd.len
  have hv := vl_dg Hb2 N
  have HV := Lib.hid hv; clear hv
  have hlast : ∀ l, LbInv (dg Hb N) m l → l = dg Wd N := fun l hi => by
    obtain ⟨i1, i2, i3⟩ := hi
    rw [List.take_of_length_le (Nat.le_of_eq H.out), HV.out] at i2
    exact limbs_end i1 i2 (by have := H.out; omega)
  have hlast1 : ∀ l i (hi : i < (dg Hb N).length), i + 1 = m → LbInv (dg Hb N) i l → l ++ [(dg Hb N)[i]] = dg Wd N := fun l i hi hm h => by
    obtain ⟨i1, i2, i3⟩ := h.one hd (by have := H.out; omega)
    rw [HV.out] at i2
    exact limbs_end i1 i2 (Nat.le_of_eq i3)
  have H1 := Lib.hid hlast; have H2 := Lib.hid hlast1
  clear hlast hlast1 h hl0
  generalize hD : dg Hb N = D at *
  have HD := Lib.hid hD; clear hD
  go_wp2_with fail
  go_loopw [3, 4, 5] (fun ov iv _ wr => ∃ i : Nat, iv = .int .i64 i ∧ i ≤ m + 1 ∧ (i ≤ m → LbRel w D ov i wr) ∧ (m ≤ i → LbEnd w N ov wr)) (fun _ iv _ _ => m + 1 - (intOf iv).toNat)
  case atStart =>
    refine ⟨0, rfl, by omega, fun _ => ⟨[], ⟨Lim_nil _, by simp [vl], rfl⟩, Ow.nil _ _, Below.refl _ _⟩, fun h => ⟨?_, Below.refl _ _⟩⟩
    have h0 : m = 0 := by omega
    have hli : LbInv D m [] := ⟨Lim_nil _, by rw [h0]; simp [vl], by simp; omega⟩
    have : ([] : List Int) = dg Wd N := H1.out [] hli
    rw [← this]; exact Ow.nil _ _
  case round =>
    obtain ⟨i, rfl, him, hrl, hend⟩ := hrel
    by_cases hi : i < m
    · obtain ⟨l, k1, k2, k3⟩ := hrl (by omega)
      clear hrl hend
      obtain ⟨b, of, rfl, hb, hc⟩ := (hrd.below k3).at_ (by omega)
      have hil : i < D.length := by have := H.out; omega
      have c0 := hc i hil
      have b0 := dig_lt (hd.get hil)
      obtain ⟨Ao, co, rfl, hlc⟩ := k2.slice
      have hll := k1.2.2
      by_cases hi2 : i + 1 < m
      · have hil2 : i + 1 < D.length := by have := H.out; omega
        have c1 := hc (i + 1) hil2
        have b1 := dig_lt (hd.get hil2)
        have hst := k1.two hd hil2
        have hfin : i + 2 = m → l ++ [D[i] + 4294967296 * D[i + 1]] = dg Wd N := fun e => H1.out _ (e ▸ hst)
        clear hc
        generalize D[i] = x0 at *
        generalize D[i + 1] = x1 at *
        have hx0 := b0.1; have hx0' := b0.2; have hx1 := b1.1; have hx1' := b1.2
        obtain ⟨y, hy⟩ : ∃ y, x0 + 4294967296 * x1 = y := ⟨_, rfl⟩
        rw [hy] at hst hfin
        have HST := Lib.hid hst; have HF := Lib.hid hfin; have HLL := Lib.hid hll
        clear hst hfin hll b0 b1 k1
        go_wp2_with (at_builtin; refine wp_push64 rfl _ _ rfl w.heap.size _ l rfl (k2.alloc _) wr.heap.size y rfl (by simp) (by have := HLL.out; omega) (by have := k3.size; simp; omega) ?_; intro v' w1 ho1 hb1)
        obtain ⟨A1, cc1, rfl, _⟩ := ho1.slice
        have hbb := (k3.alloc k3.size _).trans hb1
        go_wp2
        go_roundw
        case rel => exact ⟨i + 2, by go_num, by omega, fun _ => ⟨_, HST.out, ho1, hbb⟩, fun hm => ⟨by rw [HF.out (by omega)] at ho1 ⊢; exact ho1, hbb⟩⟩
        case measure => simp [intOf]; omega
      · have hfin := H2.out l i hil (by omega) k1
        clear hc
        generalize D[i] = x0 at *
        have hx0 := b0.1; have hx0' := b0.2
        have HF := Lib.hid hfin; have HLL := Lib.hid hll
        clear hfin hll b0 k1
        go_wp2_with (at_builtin; refine wp_push64 rfl _ _ rfl w.heap.size _ l rfl (k2.alloc _) wr.heap.size x0 rfl (by simp) (by have := HLL.out; omega) (by have := k3.size; simp; omega) ?_; intro v' w1 ho1 hb1)
        obtain ⟨A1, cc1, rfl, _⟩ := ho1.slice
        have hbb := (k3.alloc k3.size _).trans hb1
        go_wp2
        go_roundw
        case rel => exact ⟨i + 2, by go_num, by omega, fun h => absurd h (by omega), fun hm => ⟨by rw [HF.out] at ho1 ⊢; exact ho1, hbb⟩⟩
        case measure => simp [intOf]; omega
    · obtain ⟨k2, k3⟩ := hend (by omega)
      have hlen : (dg Wd N).length ≤ 17592186044416 := by
        refine Nat.le_trans (dg_len_le Wd2 (k := m) ?_) (by omega)
        have h5 : N < Hb ^ m := by have := dg_lt Hb2 (Nat.le_of_eq (HD.out ▸ H.out)); exact this
        exact Nat.lt_of_lt_of_le h5 (Hb_le (by omega))
      obtain ⟨A5, n5, c5, rfl, hrd5⟩ := k2.rd (Lim_dg Wd2 _) hlen
      go_wp2
      go_ret
      exact ⟨_, _, _, rfl, hrd5, k3⟩

set_option maxHeartbeats 400000 in
theorem RNorm_any (A : Option Addr) (n c : Nat) (l : List Int) (w : World) (h : Rd w w.heap.size A n c l) (hn : n ≤ 549755813888) :
    Calls Tryz.prog 143 #[.slice A n c] w (Out w (vl Wd l)) := by
  have hN : Sm (vl Wd l) 549755813888 := Sm.of h hn
  go_enter Tryz.func143, Tryz.ntmps143
  go_wp2_with fail
  refine (Digits_any _ _ _ _ _ h (by omega)).mono ?_
  rintro e w1 ⟨A1, n1, c1, rfl, g1, hb1⟩
  have hz := g1.smallH hN
  go_wp2_with fail
  refine (Limbs_any _ _ _ _ _ g1 (Lim_dg Hb2 _) (by omega)).mono ?_
  rintro e w2 ⟨A2, n2, c2, rfl, g2, hb2⟩
  rw [vl_dg Hb2] at g2
  have hb := hb1.trans (hb2.mono hb1.size)
  go_wp2
  go_ret
  exact ⟨_, _, _, rfl, g2, hb⟩

set_option maxHeartbeats 1000000 in
theorem CmpDigits_any (A A2 : Option Addr) (n c n2 c2 N M : Nat) (w : World) (B : Nat) (hrd : Rd w B A n c (dg Hb N)) (hrd2 : Rd w B A2 n2 c2 (dg Hb M)) :
    Calls Tryz.prog 148 #[.slice A n c, .slice A2 n2 c2] w fun e w' => e = .returned (.int .i64 (cmpI N M)) ∧ Quiet w w' := by
  have hcap := hrd.cap
  have hbig := hrd.big
  have hcap2 := hrd2.cap
  have hbig2 := hrd2.big
  have H := Lib.hid hrd.len
  have H2 := Lib.hid hrd2.len
  by_cases hne : n = n2
  · subst hne
    have hb0 : ((n : Int) != n) = false := by simp
    go_enter Tryz.func148, Tryz.ntmps148
    go_wp2_with fail
    go_loopw [5] (fun iv wr => ∃ k : Nat, k ≤ n ∧ iv = .int .i64 ((k : Int) - 1) ∧ Hid (∀ j (h1 : j < (dg Hb N).length) (h2 : j < (dg Hb M).length), k ≤ j → (dg Hb N)[j] = (dg Hb M)[j]) ∧ Quiet w wr) (fun iv _ => (intOf iv + 1).toNat)
    case atStart => exact ⟨n, Nat.le_refl _, rfl, fun j h1 _ h => absurd h (by have := H.out; omega), Quiet.refl w⟩
    case round =>
      obtain ⟨k, hk, rfl, hz, hq⟩ := hrel
      rcases k with _ | i
      · go_wp2
        go_ret
        exact ⟨ret_i64 (cmp_eq Hb2 (H.out.trans H2.out.symm) fun j h1 h2 => hz.out j h1 h2 (Nat.zero_le _)), hq⟩
      · obtain ⟨b, off, rfl, hb, hc⟩ := hrd.at_ (by omega)
        obtain ⟨b2, off2, rfl, hb2, hc2⟩ := hrd2.at_ (by omega)
        have hkl : i < (dg Hb N).length := by have := H.out; omega
        have hkm : i < (dg Hb M).length := by have := H2.out; omega
        have hck := (hq.cell _).trans (hc i hkl)
        have hck2 := (hq.cell _).trans (hc2 i hkm)
        clear hc hc2
        have hat := cmp_at Hb2 (H.out.trans H2.out.symm) hkl hkm (fun j h1 h2 hj => hz.out j h1 h2 (by omega))
        have hnext : (dg Hb N)[i] = (dg Hb M)[i] → ∀ j (h1 : j < (dg Hb N).length) (h2 : j < (dg Hb M).length), i ≤ j → (dg Hb N)[j] = (dg Hb M)[j] := fun he j h1 h2 hj => by
          rcases Nat.eq_or_lt_of_le hj with h | h
          · subst h; exact he
          · exact hz.out j h1 h2 h
        generalize (dg Hb N)[i] = x at *
        generalize (dg Hb M)[i] = y at *
        have HAT := Lib.hid hat; have HNX := Lib.hid hnext
        clear hat hnext
        have ei : ((i + 1 : Nat) : Int) - 1 = i := by omega
        have hin : (i : Int) < n := by omega
        by_cases hxy : x < y
        · have hr : (-1 : Int) = cmpI N M := by
            have := HAT.out (by omega)
            rw [← this]; simp [sideI, hxy]
          have HR := Lib.hid hr; clear hr
          go_wp2
          go_quiet (fail)
          have hq2 := hq.drewN nq
          generalize wr.drewN nq = wq at *
          clear hck hck2 hq
          go_wp2
          go_ret
          exact ⟨ret_i64 HR.out, hq2⟩
        · by_cases hyx : y < x
          · have hr : (1 : Int) = cmpI N M := by
              have := HAT.out (by omega)
              rw [← this]; simp [sideI, hxy]
            have HR := Lib.hid hr; clear hr
            go_wp2
            go_quiet (fail)
            have hq2 := hq.drewN nq
            have hcn : (wr.drewN nq).cell? ⟨b, off + i, none⟩ = _ := hck
            have hcn2 : (wr.drewN nq).cell? ⟨b2, off2 + i, none⟩ = _ := hck2
            generalize wr.drewN nq = wq at *
            clear hck hck2 hq
            go_wp2
            go_quiet (fail)
            have hq3 := hq2.drewN nq
            generalize wq.drewN nq = wq2 at *
            clear hcn hcn2 hq2
            go_wp2
            go_ret
            exact ⟨ret_i64 HR.out, hq3⟩
          · have hxe : x = y := by omega
            have HZ := Lib.hid (HNX.out hxe)
            clear hxe
            go_wp2
            go_quiet (fail)
            have hq2 := hq.drewN nq
            have hcn : (wr.drewN nq).cell? ⟨b, off + i, none⟩ = _ := hck
            have hcn2 : (wr.drewN nq).cell? ⟨b2, off2 + i, none⟩ = _ := hck2
            generalize wr.drewN nq = wq at *
            clear hck hck2 hq
            go_wp2
            go_quiet (fail)
            have hq3 := hq2.drewN nq
            generalize wq.drewN nq = wq2 at *
            clear hcn hcn2 hq2
            go_wp2
            go_roundw
            case rel => exact ⟨i, by omega, by go_num, HZ.out, hq3⟩
            case measure => simp [intOf]
  · have hb0 : ((n : Int) != n2) = true := by simp; omega
    have hr := cmp_len Hb2 (N := N) (M := M) (by rw [H.out, H2.out]; exact hne)
    rw [H.out, H2.out] at hr
    by_cases hlt : n < n2
    · have hr2 : (-1 : Int) = cmpI N M := by rw [← hr]; simp [sideI, hlt]
      have HR := Lib.hid hr2; clear hr hr2
      go_enter Tryz.func148, Tryz.ntmps148
      go_wp2
      go_ret
      exact ⟨ret_i64 HR.out, Quiet.refl _⟩
    · have hr2 : (1 : Int) = cmpI N M := by rw [← hr]; simp [sideI, hlt]
      have HR := Lib.hid hr2; clear hr hr2
      go_enter Tryz.func148, Tryz.ntmps148
      go_wp2
      go_ret
      exact ⟨ret_i64 HR.out, Quiet.refl _⟩
end
end Go.Proofs.YtbpamkpclofnbaaGreat
namespace Go.Proofs.YtbpamkpclofnbaaGreat
section
set_option maxRecDepth 100000
open Go.RowKit
set_option linter.unusedVariables false

end
end Go.Proofs.YtbpamkpclofnbaaGreat
namespace Go.Proofs.YtbpamkpclofnbaaGreat
section
set_option maxRecDepth 100000
open Go.RowKit
set_option linter.unusedVariables false

theorem run_append_zero {w : World} {base : Nat} {v : Value} {l : List Int} (h : Ow w base v l) (ty : TypeId) (c : Nat) :
    (Builtin.append_ #[28, 28] ty #[v, .slice none 0 c]).run Tryz.prog w = .ok v w := by
  obtain ⟨i0, hi, hz0, hz1, hz2⟩ := info_parts Tryz.info64
  rcases h.2 with ⟨h1, h2⟩ | ⟨g, cap, cur, hv, _, _, hnc, _⟩
  · rw [h1]
    simp [Builtin.append_, run_underlying Tryz.underlying28, sizeOf, typeInfo, hi, Builtin.lenOf, Builtin.firstCells]
  · rw [hv]
    simp [Builtin.append_, run_underlying Tryz.underlying28, sizeOf, typeInfo, hi, Builtin.lenOf, Builtin.firstCells, hnc, storeCells]

theorem wp_all64 {W : World} {ops : Array Oper} {rest : List Oper} {o : Oper} {a : Act} {Q : Exit → Act → World → Prop} (hg : o.guard = none) (s x : Operand)
    (hop : o.op = .call { callee := .builtin .append, args := #[s, x], argTypes := #[28, 28] }) (base : Nat) (v : Value) (l : List Int) (hs : a.eval s = v) (hown : Ow W base v l)
    (A : Option Addr) (n c B : Nat) (m : List Int) (hx : a.eval x = .slice A n c) (hrd : Rd W B A n c m) (hlen : l.length ≤ 1099511627776) (hn : n ≤ 1099511627776) (hbase : base ≤ W.heap.size)
    (hK : ∀ v' w', Ow w' base v' (l ++ m) → Below base W w' → wpList Tryz.prog ops Q rest (a.put o.dst v') w') : wpList Tryz.prog ops Q (o :: rest) a W := by
  have hml := hrd.len
  rcases A with _ | ad
  · have h0 : n = 0 := by
      rcases Nat.eq_zero_or_pos n with h0 | h0
      · exact h0
      · obtain ⟨_, _, h, _⟩ := hrd.at_ h0; cases h
    subst h0
    have : m = [] := List.eq_nil_of_length_eq_zero hml
    subst this
    refine wpList_plain hg fun K hK' => ?_
    have hrun := run_append_zero hown o.type c
    unfold Oper.wp
    simp [execOp, hop, resolve, invoke, builtin, hs, hx, hrun, Result.andThen]
    exact hK' _ _ (hK v W (by simpa using hown) (Below.refl _ _))
  · obtain ⟨i0, hi, hz0, hz1, hz2⟩ := info_parts Tryz.info64
    refine wpList_append_own W hg s x 28 hop base 69 i0 (.int .u64 0) 1 8 Tryz.underlying28 hi hz0 hz1 hz2 rfl (by decide) v _ _ hs hown ad n c (m.map (Value.int .u64)) hx (by simp [hml]) ?_ (ints_oneCell _ _) (by unfold maxLen; omega) (by omega) hbase ?_
    · intro j u hj
      rw [List.getElem?_map] at hj
      by_cases hjl : j < m.length
      · obtain ⟨b, of, e, hb, hc⟩ := hrd.at_ (by omega)
        injection e with e
        subst e
        rw [List.getElem?_eq_getElem hjl] at hj
        simp at hj
        subst hj
        rw [← hc j hjl]
        unfold Addr.add
        by_cases hj0 : j = 0
        · subst hj0; simp
        · rw [if_neg hj0]
      · rw [List.getElem?_eq_none (by omega)] at hj
        simp at hj
    · intro v' w' h1 h2 _
      refine hK v' w' ?_ ⟨h2.os, h2.tape, h2.output, h2.size, fun k hk => h2.block k (by omega) (fun e => by have := (World.ownsRow.lt hown k e.symm).1; omega)⟩
      unfold Ow
      rw [List.length_append, hml, List.map_append]
      exact h1
theorem Ow.empty (w : World) (base : Nat) (hb : base ≤ w.heap.size) : Ow (w.alloc (.cells #[] 69)) base (.slice (some ⟨w.heap.size, 0, none⟩) 0 0) [] :=
  ⟨by simp, .inr ⟨w.heap.size, 0, #[], rfl, hb, heap_alloc_new w _, Nat.le_refl _, by unfold maxLen; omega, rfl, rfl⟩⟩
end
end Go.Proofs.YtbpamkpclofnbaaGreat
namespace Go.Proofs.YtbpamkpclofnbaaGreat
section
set_option maxRecDepth 100000
open Go.RowKit
set_option linter.unusedVariables false

theorem ZOut.mk {w w' : World} {b b' : Bool} {A : Option Addr} {n c N k : Nat} (h : Rd w' w'.heap.size A n c (dg Wd N)) (hs : Sm N k) (he : b' = ngB (zi b N)) (hb : Below w.heap.size w w') : OutZ w (zi b N) k (.returned (.agg #[.bool b', .slice A n c])) w' :=
  ⟨A, n, c, by rw [he], ⟨by rw [zi_abs]; exact h, h.small hs⟩, hb⟩
set_option maxRecDepth 100000 in
set_option maxHeartbeats 2000000 in
theorem RMake_any {b : Bool} {A : Option Addr} {n c : Nat} {l : List Int} {w : World} (h : Rd w w.heap.size A n c l) (N k : Nat) (hN : vl Wd l = N) (hs : Sm N k) (hn : n ≤ 1000000) :
    Calls Tryz.prog 108 #[.bool b, .slice A n c] w (OutZ w (zi b N) k) := by
  have HN := Lib.hid hN; clear hN
  cases b
  · skip
    go_enter Tryz.func108, Tryz.ntmps108
    go_wp2_with fail
    obtain ⟨hb, x_r⟩ := box1 w false none 0 0
    generalize w.alloc (.cells #[.bool false, .slice none 0 0] 30) = v1 at *
    replace h := h.go hb
    have q_r := x_r.al
    go_wp2_with fail
    with_reducible refine (RNorm_any _ _ _ _ _ h (by omega)).mono ?_
    rintro e v2 ⟨A1, n1, c1, rfl, g1, hb1⟩
    replace x_r := x_r.keep hb1
    replace h := h.go hb1
    replace hb := bthen hb hb1
    clear hb1
    replace q_r := x_r.al
    rw [HN.out] at g1
    go_wp2
    replace h := h.sput (b' := false) (A' := A1) (n' := n1) (c' := c1) x_r
    replace g1 := g1.sput (b' := false) (A' := A1) (n' := n1) (c' := c1) x_r
    replace hb := put_below (g := w.heap.size) hb (by omega) (.bool false) (.slice A1 n1 c1)
    replace x_r := x_r.put false A1 n1 c1
    clear q_r
    generalize (v2.setCell ⟨w.heap.size, 0, none⟩ (.bool false)).setCell ⟨w.heap.size, 1, none⟩ (.slice A1 n1 c1) = v3 at *
    have q_r := x_r.al
    refine bodyPost_ret (v := .agg #[.bool false, .slice A1 n1 c1]) (by simp [results, Tryz.results108, go_sem, q_r]) rfl ?_
    exact ZOut.mk g1 hs (ngB_false _).symm hb
  · rcases Nat.eq_zero_or_pos N with h0 | h0
    · subst h0
      go_enter Tryz.func108, Tryz.ntmps108
      go_wp2_with fail
      obtain ⟨hb, x_r⟩ := box1 w false none 0 0
      generalize w.alloc (.cells #[.bool false, .slice none 0 0] 30) = v1 at *
      replace h := h.go hb
      have q_r := x_r.al
      go_wp2_with fail
      with_reducible refine (RNorm_any _ _ _ _ _ h (by omega)).mono ?_
      rintro e v2 ⟨A1, n1, c1, rfl, g1, hb1⟩
      replace x_r := x_r.keep hb1
      replace h := h.go hb1
      replace hb := bthen hb hb1
      clear hb1
      replace q_r := x_r.al
      rw [HN.out] at g1
      obtain rfl := rd_zero g1 rfl
      go_wp2
      replace h := h.sput (b' := false) (A' := A1) (n' := 0) (c' := c1) x_r
      replace g1 := g1.sput (b' := false) (A' := A1) (n' := 0) (c' := c1) x_r
      replace hb := put_below (g := w.heap.size) hb (by omega) (.bool false) (.slice A1 0 c1)
      replace x_r := x_r.put false A1 0 c1
      clear q_r
      generalize (v2.setCell ⟨w.heap.size, 0, none⟩ (.bool false)).setCell ⟨w.heap.size, 1, none⟩ (.slice A1 0 c1) = v3 at *
      have q_r := x_r.al
      refine bodyPost_ret (v := .agg #[.bool false, .slice A1 0 c1]) (by simp [results, Tryz.results108, go_sem, q_r]) rfl ?_
      exact ZOut.mk g1 hs (ngB_zero _).symm hb
    · skip
      go_enter Tryz.func108, Tryz.ntmps108
      go_wp2_with fail
      obtain ⟨hb, x_r⟩ := box1 w false none 0 0
      generalize w.alloc (.cells #[.bool false, .slice none 0 0] 30) = v1 at *
      replace h := h.go hb
      have q_r := x_r.al
      go_wp2_with fail
      with_reducible refine (RNorm_any _ _ _ _ _ h (by omega)).mono ?_
      rintro e v2 ⟨A1, n1, c1, rfl, g1, hb1⟩
      replace x_r := x_r.keep hb1
      replace h := h.go hb1
      replace hb := bthen hb hb1
      clear hb1
      replace q_r := x_r.al
      rw [HN.out] at g1
      have hp := rd_pos g1 h0
      go_wp2
      replace h := h.sput (b' := true) (A' := A1) (n' := n1) (c' := c1) x_r
      replace g1 := g1.sput (b' := true) (A' := A1) (n' := n1) (c' := c1) x_r
      replace hb := put_below (g := w.heap.size) hb (by omega) (.bool true) (.slice A1 n1 c1)
      replace x_r := x_r.put true A1 n1 c1
      clear q_r
      generalize (v2.setCell ⟨w.heap.size, 0, none⟩ (.bool true)).setCell ⟨w.heap.size, 1, none⟩ (.slice A1 n1 c1) = v3 at *
      have q_r := x_r.al
      refine bodyPost_ret (v := .agg #[.bool true, .slice A1 n1 c1]) (by simp [results, Tryz.results108, go_sem, q_r]) rfl ?_
      exact ZOut.mk g1 hs (ngB_true h0).symm hb

set_option maxRecDepth 100000 in
set_option maxHeartbeats 1000000 in
theorem RNormZ_any {b : Bool} {A : Option Addr} {n c : Nat} {X : Int} {j : Nat} {w : World} (h : Zr w b A n c X j) (k : Nat) (hk : j ≤ k) (hj : k ≤ 1000000) :
    Calls Tryz.prog 87 #[.agg #[.bool b, .slice A n c]] w (OutZ w X k) := by
  obtain ⟨l, h, rfl, hn⟩ := h
  have hs := Sm.of h hn
  generalize hN : vl Wd l = N at *
  have HN := Lib.hid hN; clear hN
  replace hs := hs.mono hk
  go_enter Tryz.func87, Tryz.ntmps87
  go_wp2_with fail
  obtain ⟨hb, x_a, x_r⟩ := box2 w b A n c false none 0 0
  generalize (w.alloc (.cells #[.bool b, .slice A n c] 30)).alloc (.cells #[.bool false, .slice none 0 0] 30) = v1 at *
  replace h := h.go hb
  have q_a := x_a.al
  have q_r := x_r.al
  go_wp2_with fail
  with_reducible refine (RMake_any h N k HN.out hs (by omega)).mono ?_
  rintro e v2 ⟨A1, n1, c1, rfl, z1, hb1⟩
  obtain ⟨x_a, x_r⟩ := mv2 hb1 x_a x_r
  replace h := h.go hb1
  replace hb := bthen hb hb1
  clear hb1
  replace q_a := x_a.al
  replace q_r := x_r.al
  go_wp2
  replace x_a := x_a.aside (b' := (ngB (zi b N))) (A' := A1) (n' := n1) (c' := c1) (g := w.heap.size + 1) (by omega)
  replace h := h.sput (b' := (ngB (zi b N))) (A' := A1) (n' := n1) (c' := c1) x_r
  replace z1 := z1.put (b' := (ngB (zi b N))) (A' := A1) (n' := n1) (c' := c1) x_r
  replace hb := put_below (g := w.heap.size + 1) hb (by omega) (.bool (ngB (zi b N))) (.slice A1 n1 c1)
  replace x_r := x_r.put (ngB (zi b N)) A1 n1 c1
  clear q_a q_r
  generalize (v2.setCell ⟨w.heap.size + 1, 0, none⟩ (.bool (ngB (zi b N)))).setCell ⟨w.heap.size + 1, 1, none⟩ (.slice A1 n1 c1) = v3 at *
  have q_a := x_a.al
  have q_r := x_r.al
  refine bodyPost_ret (v := .agg #[.bool (ngB (zi b N)), .slice A1 n1 c1]) (by simp [results, Tryz.results87, go_sem, q_r]) rfl ?_
  exact ⟨_, _, _, rfl, z1, hb⟩

set_option maxRecDepth 100000 in
set_option maxHeartbeats 1000000 in
theorem RNegZ_any {b : Bool} {A : Option Addr} {n c : Nat} {X : Int} {j : Nat} {w : World} (h : Zr w b A n c X j) (k : Nat) (hk : j ≤ k) (hj : k ≤ 1000000) :
    Calls Tryz.prog 51 #[.agg #[.bool b, .slice A n c]] w (OutZ w (-X) k) := by
  obtain ⟨l, h, rfl, hn⟩ := h
  have hs := Sm.of h hn
  generalize hN : vl Wd l = N at *
  have HN := Lib.hid hN; clear hN
  replace hs := hs.mono hk
  rw [← zi_not]
  go_enter Tryz.func51, Tryz.ntmps51
  go_wp2_with fail
  obtain ⟨hb, x_a, x_r⟩ := box2 w b A n c false none 0 0
  generalize (w.alloc (.cells #[.bool b, .slice A n c] 30)).alloc (.cells #[.bool false, .slice none 0 0] 30) = v1 at *
  replace h := h.go hb
  have q_a := x_a.al
  have q_r := x_r.al
  go_wp2_with fail
  with_reducible refine (RMake_any (b := (!b)) h N k HN.out hs (by omega)).mono ?_
  rintro e v2 ⟨A1, n1, c1, rfl, z1, hb1⟩
  obtain ⟨x_a, x_r⟩ := mv2 hb1 x_a x_r
  replace h := h.go hb1
  replace hb := bthen hb hb1
  clear hb1
  replace q_a := x_a.al
  replace q_r := x_r.al
  go_wp2
  replace x_a := x_a.aside (b' := (ngB (zi (!b) N))) (A' := A1) (n' := n1) (c' := c1) (g := w.heap.size + 1) (by omega)
  replace h := h.sput (b' := (ngB (zi (!b) N))) (A' := A1) (n' := n1) (c' := c1) x_r
  replace z1 := z1.put (b' := (ngB (zi (!b) N))) (A' := A1) (n' := n1) (c' := c1) x_r
  replace hb := put_below (g := w.heap.size + 1) hb (by omega) (.bool (ngB (zi (!b) N))) (.slice A1 n1 c1)
  replace x_r := x_r.put (ngB (zi (!b) N)) A1 n1 c1
  clear q_a q_r
  generalize (v2.setCell ⟨w.heap.size + 1, 0, none⟩ (.bool (ngB (zi (!b) N)))).setCell ⟨w.heap.size + 1, 1, none⟩ (.slice A1 n1 c1) = v3 at *
  have q_a := x_a.al
  have q_r := x_r.al
  refine bodyPost_ret (v := .agg #[.bool (ngB (zi (!b) N)), .slice A1 n1 c1]) (by simp [results, Tryz.results51, go_sem, q_r]) rfl ?_
  exact ⟨_, _, _, rfl, z1, hb⟩

theorem Zn.same {w : World} {A A2 : Option Addr} {n c n2 c2 k k2 : Nat} {X : Int} (h : Zn w A n c X k) (h2 : Zn w A2 n2 c2 X k2) : True := trivial
theorem of_neg {m : Int} (h0 : 0 < m) (h1 : m ≤ 9223372036854775808) : IntKind.i64.wrap (-m + 1) = -m + 1 ∧ IntKind.i64.wrap (-(-m + 1)) = m - 1 ∧ IntKind.u64.wrap (m - 1) = m - 1 ∧ IntKind.u64.wrap (m - 1 + 1) = m := by
  refine ⟨i64_keep (by omega) (by omega), ?_, ?_, ?_⟩
  · rw [i64_keep (by omega) (by omega)]; omega
  · rw [wrap_u64]; omega
  · rw [wrap_u64]; omega
set_option maxRecDepth 100000 in
set_option maxHeartbeats 2000000 in
theorem ROf_any (n : Int) {w : World} (h0 : -9223372036854775808 ≤ n) (h1 : n ≤ 9223372036854775807) :
    Calls Tryz.prog 54 #[.int .i64 n] w (OutZ w n 1) := by
  rcases Int.lt_or_le n 0 with hlt | hge
  · obtain ⟨m, rfl⟩ : ∃ m : Int, n = -m := ⟨-n, by omega⟩
    obtain ⟨e1, e2, e3, e4⟩ := of_neg (m := m) (by omega) (by omega)
    have hlt0 : ¬ (0 ≤ -m) := by omega
    have hm : Lm m := lm_small (by omega) (by omega)
    have hv : -m = zi true m.toNat := by rw [zi_true]; omega
    have hs : Sm m.toNat 1 := by unfold Sm; rw [Nat.pow_one, Wd_eq]; omega
    rw [show OutZ w (-m) 1 = OutZ w (zi true m.toNat) 1 by rw [← hv]]
    clear hv
    go_enter Tryz.func54, Tryz.ntmps54
    go_wp2_with fail
    obtain ⟨hb, x_r⟩ := box1 w false none 0 0
    have hsz : (w.alloc (.cells #[.bool false, .slice none 0 0] 30)).heap.size = w.heap.size + 1 := by simp
    generalize w.alloc (.cells #[.bool false, .slice none 0 0] 30) = v1 at *
    have HSZ := Lib.hid hsz; clear hsz
    have q_r := x_r.al
    have hb1 := below_alloc v1 (.cells #[.int .u64 m] 69)
    replace x_r := x_r.keep hb1
    replace hb := bthen hb hb1
    clear hb1
    replace q_r := x_r.al
    have u1 := lay1s v1 m hm HSZ.out
    clear q_r
    generalize v1.alloc (.cells #[.int .u64 m] 69) = v2 at *
    have q_r := x_r.al
    skip
    with_reducible refine (RMake_any (b := true) u1 m.toNat 1 (vl_one _) hs (by omega)).mono ?_
    rintro e v3 ⟨A1, n1, c1, rfl, z1, hb1⟩
    replace x_r := x_r.keep hb1
    replace u1 := u1.go hb1
    replace hb := bthen hb hb1
    clear hb1
    replace q_r := x_r.al
    go_wp2
    replace u1 := u1.sput (b' := (ngB (zi true m.toNat))) (A' := A1) (n' := n1) (c' := c1) x_r
    replace z1 := z1.put (b' := (ngB (zi true m.toNat))) (A' := A1) (n' := n1) (c' := c1) x_r
    replace hb := put_below (g := w.heap.size) hb (by omega) (.bool (ngB (zi true m.toNat))) (.slice A1 n1 c1)
    replace x_r := x_r.put (ngB (zi true m.toNat)) A1 n1 c1
    clear q_r
    generalize (v3.setCell ⟨w.heap.size, 0, none⟩ (.bool (ngB (zi true m.toNat)))).setCell ⟨w.heap.size, 1, none⟩ (.slice A1 n1 c1) = v4 at *
    have q_r := x_r.al
    refine bodyPost_ret (v := .agg #[.bool (ngB (zi true m.toNat)), .slice A1 n1 c1]) (by simp [results, Tryz.results54, go_sem, q_r]) rfl ?_
    exact ⟨_, _, _, rfl, z1, hb⟩
  · have e1 : IntKind.u64.wrap n = n := by rw [wrap_u64]; omega
    have hm : Lm n := lm_small (by omega) (by omega)
    have hv : n = zi false n.toNat := by rw [zi_false]; omega
    have hs : Sm n.toNat 1 := by unfold Sm; rw [Nat.pow_one, Wd_eq]; omega
    rw [show OutZ w n 1 = OutZ w (zi false n.toNat) 1 by rw [← hv]]
    clear hv
    go_enter Tryz.func54, Tryz.ntmps54
    go_wp2_with fail
    obtain ⟨hb, x_r⟩ := box1 w false none 0 0
    have hsz : (w.alloc (.cells #[.bool false, .slice none 0 0] 30)).heap.size = w.heap.size + 1 := by simp
    generalize w.alloc (.cells #[.bool false, .slice none 0 0] 30) = v1 at *
    have HSZ := Lib.hid hsz; clear hsz
    have q_r := x_r.al
    have hb1 := below_alloc v1 (.cells #[.int .u64 n] 69)
    replace x_r := x_r.keep hb1
    replace hb := bthen hb hb1
    clear hb1
    replace q_r := x_r.al
    have u1 := lay1s v1 n hm HSZ.out
    clear q_r
    generalize v1.alloc (.cells #[.int .u64 n] 69) = v2 at *
    have q_r := x_r.al
    skip
    with_reducible refine (RMake_any (b := false) u1 n.toNat 1 (vl_one _) hs (by omega)).mono ?_
    rintro e v3 ⟨A1, n1, c1, rfl, z1, hb1⟩
    replace x_r := x_r.keep hb1
    replace u1 := u1.go hb1
    replace hb := bthen hb hb1
    clear hb1
    replace q_r := x_r.al
    go_wp2
    replace u1 := u1.sput (b' := (ngB (zi false n.toNat))) (A' := A1) (n' := n1) (c' := c1) x_r
    replace z1 := z1.put (b' := (ngB (zi false n.toNat))) (A' := A1) (n' := n1) (c' := c1) x_r
    replace hb := put_below (g := w.heap.size) hb (by omega) (.bool (ngB (zi false n.toNat))) (.slice A1 n1 c1)
    replace x_r := x_r.put (ngB (zi false n.toNat)) A1 n1 c1
    clear q_r
    generalize (v3.setCell ⟨w.heap.size, 0, none⟩ (.bool (ngB (zi false n.toNat)))).setCell ⟨w.heap.size, 1, none⟩ (.slice A1 n1 c1) = v4 at *
    have q_r := x_r.al
    refine bodyPost_ret (v := .agg #[.bool (ngB (zi false n.toNat)), .slice A1 n1 c1]) (by simp [results, Tryz.results54, go_sem, q_r]) rfl ?_
    exact ⟨_, _, _, rfl, z1, hb⟩
end
end Go.Proofs.YtbpamkpclofnbaaGreat
namespace Go.Proofs.YtbpamkpclofnbaaGreat
section
set_option maxRecDepth 100000
open Go.RowKit
set_option linter.unusedVariables false

/-- What a function of digits hands back, with noughts on top perhaps. -/
def OutL (w : World) (N : Nat) (e : Ending) (w' : World) : Prop := ∃ A n c L, e = .returned (.slice A n c) ∧ Rd w' w'.heap.size A n c L ∧ Lim Hb L ∧ vl Hb L = N ∧ n ≤ 1099511627776 ∧ Below w.heap.size w w'

def AhInv (la lb : List Int) (k : Nat) (L : List Int) (c : Int) : Prop := L.length = k ∧ Lim Hb L ∧ Cr c ∧ vl Hb L + Hb ^ k * c.toNat = vl Hb (la.take k) + vl Hb (lb.take k)
theorem take_step {l : List Int} (k : Nat) : vl Hb (l.take (k + 1)) = vl Hb (l.take k) + Hb ^ k * (l.getD k 0).toNat := by
  by_cases hk : k < l.length
  · rw [vl_take_succ Hb l k hk]; simp [List.getD, hk]
  · rw [List.take_of_length_le (by omega), List.take_of_length_le (by omega)]
    simp [List.getD, List.getElem?_eq_none (show l.length ≤ k by omega)]
theorem AhInv.step {la lb L : List Int} {k : Nat} {c S : Int} (h : AhInv la lb k L c) (hla : Lim Hb la) (hlb : Lim Hb lb) (hS : c + la.getD k 0 + lb.getD k 0 = S) :
    AhInv la lb (k + 1) (L ++ [S % 4294967296]) (S / 4294967296) ∧ 0 ≤ S ∧ S < 8589934592 := by
  obtain ⟨h1, h2, h3, h4⟩ := h
  have bx := dig_lt (hla.getD Hb0 k)
  have by_ := dig_lt (hlb.getD Hb0 k)
  have e1 := take_step (l := la) k
  have e2 := take_step (l := lb) k
  generalize la.getD k 0 = x at *
  generalize lb.getD k 0 = y at *
  have hc : c = 0 ∨ c = 1 := h3
  refine ⟨⟨by simp [h1], Lim_append.2 ⟨h2, fun z hz => by simp at hz; subst hz; rw [Hb_eq]; omega⟩, by unfold Cr; omega, ?_⟩, by omega, by omega⟩
  rw [vl_append, h1, e1, e2, Nat.pow_succ]
  have e3 : vl Hb [S % 4294967296] = (S % 4294967296).toNat := by simp [vl]
  have e4 : (S % 4294967296).toNat + Hb * (S / 4294967296).toNat = c.toNat + x.toNat + y.toNat := by rw [Hb_eq]; omega
  have e5 : Hb ^ k * ((S % 4294967296).toNat + Hb * (S / 4294967296).toNat) = Hb ^ k * (c.toNat + x.toNat + y.toNat) := by rw [e4]
  rw [e3, Nat.mul_assoc]
  simp only [Nat.mul_add] at e5
  omega
theorem getD_at {l : List Int} {k : Nat} (hk : k < l.length) : l.getD k 0 = l[k] := by simp [List.getD, hk]
theorem getD_out {l : List Int} {k : Nat} (hk : l.length ≤ k) : l.getD k 0 = 0 := by simp [List.getD, List.getElem?_eq_none hk]
theorem rem32 {S : Int} (h0 : 0 ≤ S) (h1 : S < 18446744073709551616) : S.tmod 4294967296 = S % 4294967296 ∧ IntKind.u64.wrap (S.tdiv 4294967296) = S / 4294967296 := by
  refine ⟨Int.tmod_eq_emod_of_nonneg h0, ?_⟩
  rw [Int.tdiv_eq_ediv_of_nonneg h0, wrap_u64]
  omega
def AhRel (w : World) (m : Nat) (la lb : List Int) (ov cv : Value) (k : Nat) (wr : World) : Prop :=
  ∃ L c, cv = .int .u64 c ∧ AhInv la lb k L c ∧ (k = m + 1 → c = 0) ∧ Ow wr w.heap.size ov L ∧ Below w.heap.size w wr

set_option maxHeartbeats 4000000 in
theorem radd_any (A A2 : Option Addr) (n c n2 c2 : Nat) (la lb : List Int) (w : World) (h : Rd w w.heap.size A n c la) (h2 : Rd w w.heap.size A2 n2 c2 lb) (hla : Lim Hb la) (hlb : Lim Hb lb) (hn : n ≤ 10000000) (hn2 : n2 ≤ 10000000) :
    Calls Tryz.prog 147 #[.slice A n c, .slice A2 n2 c2] w (OutL w (vl Hb la + vl Hb lb)) := by
  have H := Lib.hid h.len
  have H2 := Lib.hid h2.len
  obtain ⟨m, hm⟩ : ∃ m, m = max n n2 := ⟨_, rfl⟩
  have hm1 : n ≤ m := by omega
  have hm2 : n2 ≤ m := by omega
  have hm3 : m ≤ 10000000 := by omega
  have HM := Lib.hid hm; clear hm
  go_enter Tryz.func147, Tryz.ntmps147
  go_wp2
  go_loopw [5, 6, 7, 8] (fun ov cv iv _ wr => ∃ k : Nat, k ≤ m + 1 ∧ iv = .int .i64 k ∧ AhRel w m la lb ov cv k wr) (fun _ _ iv _ _ => m + 2 - (intOf iv).toNat)
  case atStart => exact ⟨0, by omega, rfl, [], 0, rfl, ⟨rfl, Lim_nil _, Cr_zero, by simp [vl]⟩, fun h => by omega, Ow.nil _ _, Below.refl _ _⟩
  case round =>
    obtain ⟨k, hk, rfl, L, cy, rfl, k1, k2, k3, k4⟩ := hrel
    have hcr := k1.2.2.1
    have hLk := k1.1
    obtain ⟨Ao, co, rfl, hlc⟩ := k3.slice
    have hcy0 : 0 ≤ cy := by rcases hcr with h | h <;> omega
    have hcy1 : cy ≤ 1 := by rcases hcr with h | h <;> omega
    by_cases hkn : k < n
    · have hkl : k < la.length := by have := H.out; omega
      obtain ⟨b, of, rfl, hb, hc⟩ := (h.below k4).at_ (by omega)
      have cx := hc k hkl
      have bx := dig_lt (hla.get hkl)
      have hgx := getD_at hkl
      by_cases hkn2 : k < n2
      · have hkl2 : k < lb.length := by have := H2.out; omega
        obtain ⟨b2, of2, rfl, hb2, hc2⟩ := (h2.below k4).at_ (by omega)
        have cy2 := hc2 k hkl2
        have by_ := dig_lt (hlb.get hkl2)
        have hgy := getD_at hkl2
        obtain ⟨S, hS⟩ : ∃ S, cy + la[k] + lb[k] = S := ⟨_, rfl⟩
        obtain ⟨st, hS0, hS1⟩ := k1.step hla hlb (S := S) (by rw [hgx, hgy]; exact hS)
        obtain ⟨er, eq⟩ := rem32 hS0 (by omega)
        clear hc hc2 hgx hgy
        generalize la[k] = x at *
        generalize lb[k] = y at *
        obtain ⟨r, hr⟩ : ∃ r, S % 4294967296 = r := ⟨_, rfl⟩
        obtain ⟨q, hq⟩ : ∃ q, S / 4294967296 = q := ⟨_, rfl⟩
        rw [hr] at er st
        rw [hq] at eq st
        have hx0 := bx.1; have hx1 := bx.2; have hy0 := by_.1; have hy1 := by_.2
        have HST := Lib.hid st; have HLK := Lib.hid hLk
        clear st hLk bx by_ k1 hr hq
        go_wp2_with (at_builtin; refine wp_push64 rfl _ _ rfl w.heap.size _ L rfl (k3.alloc _) wr.heap.size r rfl (by simp) (by have := HLK.out; omega) (by have := k4.size; simp; omega) ?_; intro v' w1 ho1 hb1)
        obtain ⟨A1, cc1, rfl, _⟩ := ho1.slice
        have hbb := (k4.alloc k4.size _).trans hb1
        go_wp2
        go_roundw
        case rel => exact ⟨k + 1, by omega, by go_num, _, _, rfl, HST.out, fun hh => by omega, ho1, hbb⟩
        case measure => simp [intOf]; omega
      · have hgy := getD_out (l := lb) (k := k) (by have := H2.out; omega)
        obtain ⟨S, hS⟩ : ∃ S, cy + la[k] = S := ⟨_, rfl⟩
        obtain ⟨st, hS0, hS1⟩ := k1.step hla hlb (S := S) (by rw [hgx, hgy]; omega)
        obtain ⟨er, eq⟩ := rem32 hS0 (by omega)
        clear hc hgx hgy
        generalize la[k] = x at *
        obtain ⟨r, hr⟩ : ∃ r, S % 4294967296 = r := ⟨_, rfl⟩
        obtain ⟨q, hq⟩ : ∃ q, S / 4294967296 = q := ⟨_, rfl⟩
        rw [hr] at er st
        rw [hq] at eq st
        have hx0 := bx.1; have hx1 := bx.2
        have HST := Lib.hid st; have HLK := Lib.hid hLk
        clear st hLk bx k1 hr hq
        go_wp2_with (at_builtin; refine wp_push64 rfl _ _ rfl w.heap.size _ L rfl (k3.alloc _) wr.heap.size r rfl (by simp) (by have := HLK.out; omega) (by have := k4.size; simp; omega) ?_; intro v' w1 ho1 hb1)
        obtain ⟨A1, cc1, rfl, _⟩ := ho1.slice
        have hbb := (k4.alloc k4.size _).trans hb1
        go_wp2
        go_roundw
        case rel => exact ⟨k + 1, by omega, by go_num, _, _, rfl, HST.out, fun hh => by omega, ho1, hbb⟩
        case measure => simp [intOf]; omega
    · have hgx := getD_out (l := la) (k := k) (by have := H.out; omega)
      by_cases hkn2 : k < n2
      · have hkl2 : k < lb.length := by have := H2.out; omega
        obtain ⟨b2, of2, rfl, hb2, hc2⟩ := (h2.below k4).at_ (by omega)
        have cy2 := hc2 k hkl2
        have by_ := dig_lt (hlb.get hkl2)
        have hgy := getD_at hkl2
        obtain ⟨S, hS⟩ : ∃ S, cy + lb[k] = S := ⟨_, rfl⟩
        obtain ⟨st, hS0, hS1⟩ := k1.step hla hlb (S := S) (by rw [hgx, hgy]; omega)
        obtain ⟨er, eq⟩ := rem32 hS0 (by omega)
        clear hc2 hgx hgy
        generalize lb[k] = y at *
        obtain ⟨r, hr⟩ : ∃ r, S % 4294967296 = r := ⟨_, rfl⟩
        obtain ⟨q, hq⟩ : ∃ q, S / 4294967296 = q := ⟨_, rfl⟩
        rw [hr] at er st
        rw [hq] at eq st
        have hy0 := by_.1; have hy1 := by_.2
        have HST := Lib.hid st; have HLK := Lib.hid hLk
        clear st hLk by_ k1 hr hq
        go_wp2_with (at_builtin; refine wp_push64 rfl _ _ rfl w.heap.size _ L rfl (k3.alloc _) wr.heap.size r rfl (by simp) (by have := HLK.out; omega) (by have := k4.size; simp; omega) ?_; intro v' w1 ho1 hb1)
        obtain ⟨A1, cc1, rfl, _⟩ := ho1.slice
        have hbb := (k4.alloc k4.size _).trans hb1
        go_wp2
        go_roundw
        case rel => exact ⟨k + 1, by omega, by go_num, _, _, rfl, HST.out, fun hh => by omega, ho1, hbb⟩
        case measure => simp [intOf]; omega
      · have hgy := getD_out (l := lb) (k := k) (by have := H2.out; omega)
        rcases hcr with h0 | h0
        · subst h0
          have hval : vl Hb L = vl Hb la + vl Hb lb := by
            have := k1.2.2.2
            rw [List.take_of_length_le (by have := H.out; omega), List.take_of_length_le (by have := H2.out; omega), show (0 : Int).toNat = 0 from rfl, Nat.mul_zero, Nat.add_zero] at this
            exact this
          obtain ⟨A5, n5, c5, e5, r5⟩ := k3.rd (Lim_Wd k1.2.1) (by omega)
          have hn5 := r5.len
          injection e5 with e5a e5b e5c
          subst e5a e5b e5c
          have HV := Lib.hid hval; have hL2 := k1.2.1
          clear hval k1 hgx hgy hn5
          have hLb : L.length ≤ 1099511627776 := by omega
          clear hLk
          go_wp2
          go_ret
          exact ⟨_, _, _, L, rfl, r5, hL2, HV.out, hLb, k4⟩
        · subst h0
          have hkm : k ≠ m + 1 := fun h => by have := k2 h; omega
          obtain ⟨st, hS0, hS1⟩ := k1.step hla hlb (S := 1) (by rw [hgx, hgy]; omega)
          rw [show (1 : Int) % 4294967296 = 1 by decide, show (1 : Int) / 4294967296 = 0 by decide] at st
          have HST := Lib.hid st; have HLK := Lib.hid hLk
          clear st hLk k1 hgx hgy
          go_wp2_with (at_builtin; refine wp_push64 rfl _ _ rfl w.heap.size _ L rfl (k3.alloc _) wr.heap.size 1 rfl (by simp) (by have := HLK.out; omega) (by have := k4.size; simp; omega) ?_; intro v' w1 ho1 hb1)
          obtain ⟨A1, cc1, rfl, _⟩ := ho1.slice
          have hbb := (k4.alloc k4.size _).trans hb1
          go_wp2
          go_roundw
          case rel => exact ⟨k + 1, by omega, by go_num, _, _, rfl, HST.out, fun hh => rfl, ho1, hbb⟩
          case measure => simp [intOf]; omega

set_option maxHeartbeats 400000 in
theorem RAdd_any (A A2 : Option Addr) (n c n2 c2 : Nat) (l m : List Int) (w : World) (h : Rd w w.heap.size A n c l) (h2 : Rd w w.heap.size A2 n2 c2 m) (hn : n ≤ 1000000) (hn2 : n2 ≤ 1000000) :
    Calls Tryz.prog 110 #[.slice A n c, .slice A2 n2 c2] w (Out w (vl Wd l + vl Wd m)) := by
  have Z1 := Lib.hid (Sm.of h hn)
  have Z2 := Lib.hid (Sm.of h2 hn2)
  go_enter Tryz.func110, Tryz.ntmps110
  go_wp2_with fail
  refine (Digits_any _ _ _ _ _ h (by omega)).mono ?_
  rintro e w1 ⟨A1, n1, c1, rfl, g1, hb1⟩
  go_wp2_with fail
  refine (Digits_any _ _ _ _ _ ((h2.below hb1).more hb1.size) (by omega)).mono ?_
  rintro e w2 ⟨A3, n3, c3, rfl, g2, hb2⟩
  have g1 := (g1.below hb2).more hb2.size
  have hb := hb1.trans (hb2.mono hb1.size)
  have y1 := g1.smallH Z1.out
  have y2 := g2.smallH Z2.out
  clear Z1 Z2
  go_wp2_with fail
  refine (radd_any _ _ _ _ _ _ _ _ _ g1 g2 (Lim_dg Hb2 _) (Lim_dg Hb2 _) (by omega) (by omega)).mono ?_
  rintro e w3 ⟨A4, n4, c4, L, rfl, g3, hL, hv, hn4, hb3⟩
  rw [vl_dg Hb2, vl_dg Hb2] at hv
  have HV := Lib.hid hv; clear hv
  have hb := hb.trans (hb3.mono hb.size)
  go_wp2_with fail
  refine (Limbs_any _ _ _ _ _ g3 hL hn4).mono ?_
  rintro e w4 ⟨A5, n5, c5, rfl, g4, hb4⟩
  rw [HV.out] at g4
  have hb := hb.trans (hb4.mono hb.size)
  go_wp2
  go_ret
  exact ⟨_, _, _, rfl, g4, hb⟩

def ShInvD (la lb : List Int) (k : Nat) (L : List Int) (c : Int) : Prop := L.length = k ∧ Lim Hb L ∧ Cr c ∧ vl Hb L + vl Hb (lb.take k) = vl Hb (la.take k) + Hb ^ k * c.toNat
theorem ShInvD.step {la lb L : List Int} {k : Nat} {c t : Int} (h : ShInvD la lb k L c) (hla : Lim Hb la) (hlb : Lim Hb lb) (ht : c + lb.getD k 0 = t) :
    (la.getD k 0 < t → ShInvD la lb (k + 1) (L ++ [la.getD k 0 + 4294967296 - t]) 1) ∧ (¬ la.getD k 0 < t → ShInvD la lb (k + 1) (L ++ [la.getD k 0 - t]) 0) := by
  obtain ⟨h1, h2, h3, h4⟩ := h
  have bx := dig_lt (hla.getD Hb0 k)
  have by_ := dig_lt (hlb.getD Hb0 k)
  have e1 := take_step (l := la) k
  have e2 := take_step (l := lb) k
  generalize la.getD k 0 = x at *
  generalize lb.getD k 0 = y at *
  have hc : c = 0 ∨ c = 1 := h3
  constructor
  · intro hlt
    refine ⟨by simp [h1], Lim_append.2 ⟨h2, fun z hz => by simp at hz; subst hz; rw [Hb_eq]; omega⟩, .inr rfl, ?_⟩
    rw [vl_append, h1, e1, e2, Nat.pow_succ]
    have e3 : vl Hb [x + 4294967296 - t] = (x + 4294967296 - t).toNat := by simp [vl]
    have e4 : (x + 4294967296 - t).toNat + y.toNat + c.toNat = x.toNat + Hb * (1 : Int).toNat := by rw [Hb_eq]; omega
    have e5 : Hb ^ k * ((x + 4294967296 - t).toNat + y.toNat + c.toNat) = Hb ^ k * (x.toNat + Hb * (1 : Int).toNat) := by rw [e4]
    rw [e3, Nat.mul_assoc]
    simp only [Nat.mul_add] at e5
    omega
  · intro hlt
    refine ⟨by simp [h1], Lim_append.2 ⟨h2, fun z hz => by simp at hz; subst hz; rw [Hb_eq]; omega⟩, .inl rfl, ?_⟩
    rw [vl_append, h1, e1, e2, Nat.pow_succ]
    have e3 : vl Hb [x - t] = (x - t).toNat := by simp [vl]
    have e4 : (x - t).toNat + y.toNat + c.toNat = x.toNat + Hb * (0 : Int).toNat := by rw [Hb_eq]; omega
    have e5 : Hb ^ k * ((x - t).toNat + y.toNat + c.toNat) = Hb ^ k * (x.toNat + Hb * (0 : Int).toNat) := by rw [e4]
    rw [e3, Nat.mul_assoc]
    simp only [Nat.mul_add] at e5
    omega
def ShRelD (w : World) (la lb : List Int) (ov cv : Value) (k : Nat) (wr : World) : Prop := ∃ L c, cv = .int .u64 c ∧ ShInvD la lb k L c ∧ Ow wr w.heap.size ov L ∧ Below w.heap.size w wr

set_option maxHeartbeats 4000000 in
theorem rsub_any (A A2 : Option Addr) (n c n2 c2 : Nat) (la lb : List Int) (w : World) (h : Rd w w.heap.size A n c la) (h2 : Rd w w.heap.size A2 n2 c2 lb) (hla : Lim Hb la) (hlb : Lim Hb lb) (hn : n ≤ 10000000) (hn2 : n2 ≤ n) (hle : vl Hb lb ≤ vl Hb la) :
    Calls Tryz.prog 149 #[.slice A n c, .slice A2 n2 c2] w (OutH w (vl Hb la - vl Hb lb)) := by
  have H := Lib.hid h.len
  have H2 := Lib.hid h2.len
  have HLE := Lib.hid hle; clear hle
  go_enter Tryz.func149, Tryz.ntmps149
  go_wp2
  go_loopw [5, 6, 7, 8, 9] (fun ov cv iv _ _ wr => ∃ k : Nat, k ≤ n ∧ iv = .int .i64 k ∧ ShRelD w la lb ov cv k wr) (fun _ _ iv _ _ _ => n - (intOf iv).toNat)
  case atStart => exact ⟨0, by omega, rfl, [], 0, rfl, ⟨rfl, Lim_nil _, Cr_zero, by simp [vl]⟩, Ow.nil _ _, Below.refl _ _⟩
  case round =>
    obtain ⟨k, hk, rfl, L, cy, rfl, k1, k3, k4⟩ := hrel
    have hcr := k1.2.2.1
    have hLk := k1.1
    obtain ⟨Ao, co, rfl, hlc⟩ := k3.slice
    have hcy0 : 0 ≤ cy := by rcases hcr with h | h <;> omega
    have hcy1 : cy ≤ 1 := by rcases hcr with h | h <;> omega
    by_cases hkn : k < n
    · have hkl : k < la.length := by have := H.out; omega
      obtain ⟨b, of, rfl, hb, hc⟩ := (h.below k4).at_ (by omega)
      have cx := hc k hkl
      have bx := dig_lt (hla.get hkl)
      have hgx := getD_at hkl
      by_cases hkn2 : k < n2
      · have hkl2 : k < lb.length := by have := H2.out; omega
        obtain ⟨b2, of2, rfl, hb2, hc2⟩ := (h2.below k4).at_ (by omega)
        have cy2 := hc2 k hkl2
        have by_ := dig_lt (hlb.get hkl2)
        have hgy := getD_at hkl2
        obtain ⟨t, ht⟩ : ∃ t, cy + lb[k] = t := ⟨_, rfl⟩
        obtain ⟨kst1, kst0⟩ := k1.step hla hlb (t := t) (by rw [hgy]; exact ht)
        rw [hgx] at kst1 kst0
        clear hc hc2 hgx hgy
        generalize la[k] = x at *
        generalize lb[k] = y at *
        have hx0 := bx.1; have hx1 := bx.2; have hy0 := by_.1; have hy1 := by_.2
        have ht0 : 0 ≤ t := by omega
        have ht1 : t ≤ 4294967296 := by omega
        clear bx by_
        by_cases hlt : x < t
        · obtain ⟨d, hd⟩ : ∃ d, x + 4294967296 - t = d := ⟨_, rfl⟩
          have st := kst1 hlt
          rw [hd] at st
          have HST := Lib.hid st; have HLK := Lib.hid hLk
          clear st hLk kst0 kst1 k1
          go_wp2_with (at_builtin; refine wp_push64 rfl _ _ rfl w.heap.size _ L rfl (k3.alloc _) wr.heap.size d rfl (by simp) (by have := HLK.out; omega) (by have := k4.size; simp; omega) ?_; intro v' w1 ho1 hb1)
          obtain ⟨A1, cc1, rfl, _⟩ := ho1.slice
          have hbb := (k4.alloc k4.size _).trans hb1
          go_wp2
          go_roundw
          case rel => exact ⟨k + 1, by omega, by go_num, _, _, rfl, HST.out, ho1, hbb⟩
          case measure => simp [intOf]; omega
        · obtain ⟨d, hd⟩ : ∃ d, x - t = d := ⟨_, rfl⟩
          have st := kst0 hlt
          rw [hd] at st
          have HST := Lib.hid st; have HLK := Lib.hid hLk
          clear st hLk kst0 kst1 k1
          go_wp2_with (at_builtin; refine wp_push64 rfl _ _ rfl w.heap.size _ L rfl (k3.alloc _) wr.heap.size d rfl (by simp) (by have := HLK.out; omega) (by have := k4.size; simp; omega) ?_; intro v' w1 ho1 hb1)
          obtain ⟨A1, cc1, rfl, _⟩ := ho1.slice
          have hbb := (k4.alloc k4.size _).trans hb1
          go_wp2
          go_roundw
          case rel => exact ⟨k + 1, by omega, by go_num, _, _, rfl, HST.out, ho1, hbb⟩
          case measure => simp [intOf]; omega
      · have hgy := getD_out (l := lb) (k := k) (by have := H2.out; omega)
        obtain ⟨kst1, kst0⟩ := k1.step hla hlb (t := cy) (by rw [hgy]; omega)
        rw [hgx] at kst1 kst0
        clear hc hgx hgy
        generalize la[k] = x at *
        have hx0 := bx.1; have hx1 := bx.2
        clear bx
        by_cases hlt : x < cy
        · obtain ⟨d, hd⟩ : ∃ d, x + 4294967296 - cy = d := ⟨_, rfl⟩
          have st := kst1 hlt
          rw [hd] at st
          have HST := Lib.hid st; have HLK := Lib.hid hLk
          clear st hLk kst0 kst1 k1
          go_wp2_with (at_builtin; refine wp_push64 rfl _ _ rfl w.heap.size _ L rfl (k3.alloc _) wr.heap.size d rfl (by simp) (by have := HLK.out; omega) (by have := k4.size; simp; omega) ?_; intro v' w1 ho1 hb1)
          obtain ⟨A1, cc1, rfl, _⟩ := ho1.slice
          have hbb := (k4.alloc k4.size _).trans hb1
          go_wp2
          go_roundw
          case rel => exact ⟨k + 1, by omega, by go_num, _, _, rfl, HST.out, ho1, hbb⟩
          case measure => simp [intOf]; omega
        · obtain ⟨d, hd⟩ : ∃ d, x - cy = d := ⟨_, rfl⟩
          have st := kst0 hlt
          rw [hd] at st
          have HST := Lib.hid st; have HLK := Lib.hid hLk
          clear st hLk kst0 kst1 k1
          go_wp2_with (at_builtin; refine wp_push64 rfl _ _ rfl w.heap.size _ L rfl (k3.alloc _) wr.heap.size d rfl (by simp) (by have := HLK.out; omega) (by have := k4.size; simp; omega) ?_; intro v' w1 ho1 hb1)
          obtain ⟨A1, cc1, rfl, _⟩ := ho1.slice
          have hbb := (k4.alloc k4.size _).trans hb1
          go_wp2
          go_roundw
          case rel => exact ⟨k + 1, by omega, by go_num, _, _, rfl, HST.out, ho1, hbb⟩
          case measure => simp [intOf]; omega
    · obtain rfl : n = k := by omega
      have hval : vl Hb L = vl Hb la - vl Hb lb := by
        have h5 := k1.2.2.2
        rw [List.take_of_length_le (l := lb) (by have := H2.out; omega), List.take_of_length_le (l := la) (by have := H.out; omega)] at h5
        have h6 := vl_lt k1.2.1
        rw [hLk] at h6
        have h7 := HLE.out
        rcases hcr with h0 | h0
        · subst h0; rw [show (0 : Int).toNat = 0 from rfl, Nat.mul_zero] at h5; omega
        · subst h0; rw [show (1 : Int).toNat = 1 from rfl, Nat.mul_one] at h5; omega
      obtain ⟨A5, n5, c5, e5, r5⟩ := k3.rd (Lim_Wd k1.2.1) (by omega)
      injection e5 with e5a e5b e5c
      subst e5a e5b e5c
      have HV := Lib.hid hval; have hL2 := k1.2.1
      clear hval k1 hLk
      go_wp2_with fail
      refine (Trim_any _ _ _ _ _ _ r5 hL2).mono ?_
      rintro e w' ⟨n6, rfl, _, r6, rfl⟩
      rw [HV.out] at r6
      go_wp2
      go_ret
      exact ⟨_, _, _, rfl, r6, k4⟩

set_option maxHeartbeats 1000000 in
theorem RSub_less (A A2 : Option Addr) (n c n2 c2 : Nat) (l m : List Int) (w : World) (h : Rd w w.heap.size A n c l) (h2 : Rd w w.heap.size A2 n2 c2 m) (hn : n ≤ 1000000) (hn2 : n2 ≤ 1000000) (hlt : vl Wd l < vl Wd m) :
    Calls Tryz.prog 111 #[.slice A n c, .slice A2 n2 c2] w fun e w' => e = .returned (.tuple #[.slice none 0 0, .bool false]) ∧ Below w.heap.size w w' := by
  have hc : cmpI (vl Wd l) (vl Wd m) = -1 := by simp [cmpI, hlt]
  have HC := Lib.hid hc; clear hc hlt
  go_enter Tryz.func111, Tryz.ntmps111
  go_wp2_with fail
  refine (Digits_any _ _ _ _ _ h (by omega)).mono ?_
  rintro e w1 ⟨A1, n1, c1, rfl, g1, hb1⟩
  go_wp2_with fail
  refine (Digits_any _ _ _ _ _ ((h2.below hb1).more hb1.size) (by omega)).mono ?_
  rintro e w2 ⟨A3, n3, c3, rfl, g2, hb2⟩
  have g1 := (g1.below hb2).more hb2.size
  have hb := hb1.trans (hb2.mono hb1.size)
  go_wp2_with fail
  refine (CmpDigits_any _ _ _ _ _ _ _ _ _ _ g1 g2).mono ?_
  rintro e w3 ⟨rfl, hq⟩
  rw [HC.out]
  have hb := hb.trans (hq.bel.mono hb.size)
  go_wp2
  go_ret2
  exact ⟨rfl, hb⟩

set_option maxHeartbeats 1000000 in
theorem RSub_any (A A2 : Option Addr) (n c n2 c2 : Nat) (l m : List Int) (w : World) (h : Rd w w.heap.size A n c l) (h2 : Rd w w.heap.size A2 n2 c2 m) (hn : n ≤ 1000000) (hn2 : n2 ≤ 1000000) (hle : vl Wd m ≤ vl Wd l) :
    Calls Tryz.prog 111 #[.slice A n c, .slice A2 n2 c2] w (Out2 w (vl Wd l - vl Wd m)) := by
  have hc : 0 ≤ cmpI (vl Wd l) (vl Wd m) := by unfold cmpI; split <;> (try split) <;> omega
  generalize hcm : cmpI (vl Wd l) (vl Wd m) = cm at *
  have HC := Lib.hid hcm; clear hcm
  have Z1 := Lib.hid (Sm.of h hn)
  have hmono := dg_len_mono Hb2 hle
  have HMO := Lib.hid hmono; have HLE := Lib.hid hle; clear hmono hle
  go_enter Tryz.func111, Tryz.ntmps111
  go_wp2_with fail
  refine (Digits_any _ _ _ _ _ h (by omega)).mono ?_
  rintro e w1 ⟨A1, n1, c1, rfl, g1, hb1⟩
  go_wp2_with fail
  refine (Digits_any _ _ _ _ _ ((h2.below hb1).more hb1.size) (by omega)).mono ?_
  rintro e w2 ⟨A3, n3, c3, rfl, g2, hb2⟩
  have g1 := (g1.below hb2).more hb2.size
  have hb := hb1.trans (hb2.mono hb1.size)
  have y1 := g1.smallH Z1.out
  clear Z1
  have y2 : n3 ≤ n1 := by have := HMO.out; rw [g1.len, g2.len] at this; exact this
  go_wp2_with fail
  refine (CmpDigits_any _ _ _ _ _ _ _ _ _ _ g1 g2).mono ?_
  rintro e w3 ⟨rfl, hq⟩
  rw [HC.out]
  have hb1' := hq.bel
  have g1 := (g1.below hb1').more hb1'.size
  have g2 := (g2.below hb1').more hb1'.size
  have hb := hb.trans (hb1'.mono hb.size)
  clear hb1' hq
  go_wp2_with fail
  refine (rsub_any _ _ _ _ _ _ _ _ _ g1 g2 (Lim_dg Hb2 _) (Lim_dg Hb2 _) (by omega) y2 (by rw [vl_dg Hb2, vl_dg Hb2]; exact HLE.out)).mono ?_
  rintro e w4 ⟨A4, n4, c4, rfl, g3, hb3⟩
  rw [vl_dg Hb2, vl_dg Hb2] at g3
  have hb := hb.trans (hb3.mono hb.size)
  have y3 : n4 ≤ n1 := by have := dg_len_mono Hb2 (Nat.sub_le (vl Wd l) (vl Wd m)); rw [g1.len, g3.len] at this; exact this
  go_wp2_with fail
  refine (Limbs_any _ _ _ _ _ g3 (Lim_dg Hb2 _) (by omega)).mono ?_
  rintro e w5 ⟨A5, n5, c5, rfl, g4, hb4⟩
  rw [vl_dg Hb2] at g4
  have hb := hb.trans (hb4.mono hb.size)
  go_wp2
  go_ret2
  exact ⟨_, _, _, rfl, g4, hb⟩
end
end Go.Proofs.YtbpamkpclofnbaaGreat
namespace Go.Proofs.YtbpamkpclofnbaaGreat
section
set_option maxRecDepth 100000
open Go.RowKit
set_option linter.unusedVariables false

def MhInv (T : Nat) (la lb : List Int) (i : Nat) (L : List Int) : Prop := L.length = T ∧ Lim Hb L ∧ vl Hb L = vl Hb (la.take i) * vl Hb lb
/-- The inner loop: k digits of lb are done. -/
def MkInv (T : Nat) (lb L0 : List Int) (i : Nat) (x : Int) (k : Nat) (L : List Int) (c : Int) : Prop :=
  L.length = T ∧ Lim Hb L ∧ 0 ≤ c ∧ c < 4294967296 ∧ L[i + lb.length]? = L0[i + lb.length]? ∧ vl Hb L + Hb ^ (i + k) * c.toNat = vl Hb L0 + Hb ^ i * (x.toNat * vl Hb (lb.take k))
theorem MkInv.step {T : Nat} {lb L0 L : List Int} {i k : Nat} {x c S : Int} (h : MkInv T lb L0 i x k L c) (hx : 0 ≤ x ∧ x < 4294967296) (hlb : Lim Hb lb) (hk : k < lb.length) (hL : i + k < L.length)
    (hS : L[i + k] + x * lb[k] + c = S) : MkInv T lb L0 i x (k + 1) (L.set (i + k) (S % 4294967296)) (S / 4294967296) ∧ 0 ≤ S ∧ S < 18446744073709551616 := by
  obtain ⟨h1, h2, h3, h3', h4, h5⟩ := h
  have bz := dig_lt (h2.get hL)
  have by_ := dig_lt (hlb.get hk)
  have hs := vl_set Hb L (i + k) hL (S % 4294967296)
  have ht := vl_take_succ Hb lb k hk
  generalize L[i + k] = z at *
  generalize lb[k] = y at *
  have hp := halves_mul x y ⟨hx.1, by omega⟩ ⟨by_.1, by omega⟩
  have hxy : (x * y).toNat = x.toNat * y.toNat := Int.toNat_mul hx.1 by_.1
  generalize x * y = p at *
  refine ⟨⟨by simpa using h1, h2.set _ (by rw [Hb_eq]; omega), by omega, by omega, by rw [List.getElem?_set_ne (by omega)]; exact h4, ?_⟩, by omega, by omega⟩
  have e4 : (S % 4294967296).toNat + Hb * (S / 4294967296).toNat = z.toNat + p.toNat + c.toNat := by rw [Hb_eq]; omega
  have e5 : Hb ^ (i + k) * ((S % 4294967296).toNat + Hb * (S / 4294967296).toNat) = Hb ^ (i + k) * (z.toNat + p.toNat + c.toNat) := by rw [e4]
  simp only [Nat.mul_add] at e5
  rw [ht, Nat.mul_add x.toNat, Nat.mul_add (Hb ^ i), show i + (k + 1) = i + k + 1 by omega, Nat.pow_succ, Nat.mul_assoc]
  have e6 : Hb ^ i * (x.toNat * (Hb ^ k * y.toNat)) = Hb ^ (i + k) * p.toNat := by
    rw [hxy, Nat.pow_add, Nat.mul_left_comm x.toNat, ← Nat.mul_assoc (Hb ^ i)]
  rw [e6]
  omega
theorem zero_atH {l : List Int} (h : Lim Hb l) {j : Nat} (hj : j < l.length) (hv : vl Hb l < Hb ^ j) : l[j] = 0 := by
  have h1 := vl_split Hb l j (by omega)
  rw [vl_drop_step Hb l j hj] at h1
  have h2 := h.get hj
  rcases Nat.eq_zero_or_pos l[j].toNat with h0 | h0
  · omega
  · exfalso
    have : Hb ^ j * 1 ≤ Hb ^ j * (l[j].toNat + Hb * vl Hb (l.drop (j + 1))) := Nat.mul_le_mul_left _ (by omega)
    rw [Nat.mul_one] at this
    generalize Hb ^ j * (l[j].toNat + Hb * vl Hb (l.drop (j + 1))) = r at *
    omega
theorem MhInv.zero {T : Nat} {la lb L : List Int} {i : Nat} (h : MhInv T la lb i L) (hla : Lim Hb la) (hlb : Lim Hb lb) (hi : i ≤ la.length) (hj : i + lb.length < L.length) : L[i + lb.length] = 0 := by
  refine zero_atH h.2.1 hj ?_
  rw [h.2.2, Nat.pow_add]
  have b2 := vl_lt (hla.take i)
  rw [List.length_take, Nat.min_eq_left hi] at b2
  exact Nat.mul_lt_mul'' b2 (vl_lt hlb)
theorem MkInv.last {T : Nat} {la lb L0 L : List Int} {i : Nat} {x c : Int} (h0 : MhInv T la lb i L0) (hla : Lim Hb la) (hlb : Lim Hb lb) (hi : i < la.length) (hx : la[i] = x) (h : MkInv T lb L0 i x lb.length L c) (hj : i + lb.length < L.length) :
    L[i + lb.length] = 0 ∧ MhInv T la lb (i + 1) (L.set (i + lb.length) c) := by
  have hlen : L0.length = L.length := by rw [h0.1, h.1]
  have hz0 := h0.zero hla hlb (by omega) (by omega)
  obtain ⟨h1, h2, h3, h3', h4, h5⟩ := h
  have hz : L[i + lb.length] = 0 := by
    rw [List.getElem?_eq_getElem hj, List.getElem?_eq_getElem (by omega), hz0] at h4
    injection h4
  refine ⟨hz, by simpa using h1, h2.set _ (by rw [Hb_eq]; omega), ?_⟩
  have hs := vl_set Hb L (i + lb.length) hj c
  rw [hz, show (0 : Int).toNat = 0 from rfl, Nat.mul_zero, Nat.add_zero] at hs
  rw [List.take_of_length_le (Nat.le_refl _)] at h5
  rw [hs, h5, h0.2.2, vl_take_succ Hb la i hi, hx, Nat.add_mul]
  rw [Nat.mul_assoc]
theorem Sm.lenH {N k : Nat} (h : Sm N k) : (dg Hb N).length ≤ 2 * k := dg_len_le Hb2 (by rw [Hb_pow]; exact h)
def MhRel (w : World) (g T : Nat) (la lb : List Int) (i : Nat) (wr : World) : Prop := ∃ L, MhInv T la lb i L ∧ Bk wr g L ∧ Below w.heap.size w wr
def MkRel (w : World) (g T : Nat) (lb L0 : List Int) (i : Nat) (x : Int) (cv : Value) (k : Nat) (wr : World) : Prop := ∃ L c, cv = .int .u64 c ∧ MkInv T lb L0 i x k L c ∧ Bk wr g L ∧ Below w.heap.size w wr

set_option maxHeartbeats 4000000 in
theorem rmul_any (A A2 : Option Addr) (n c n2 c2 : Nat) (la lb : List Int) (w : World) (h : Rd w w.heap.size A n c la) (h2 : Rd w w.heap.size A2 n2 c2 lb) (hla : Lim Hb la) (hlb : Lim Hb lb) (hn : n ≤ 10000000) (hn2 : n2 ≤ 10000000) :
    Calls Tryz.prog 145 #[.slice A n c, .slice A2 n2 c2] w (OutH w (vl Hb la * vl Hb lb)) := by
  have H := Lib.hid h.len
  have H2 := Lib.hid h2.len
  obtain ⟨T, hT⟩ : ∃ T, T = n + n2 + 1 := ⟨_, rfl⟩
  have eT : (n : Int) + n2 + 1 = T := by omega
  have hTb : T ≤ 100000000 := by omega
  have HT := Lib.hid hT; clear hT
  go_enter Tryz.func145, Tryz.ntmps145
  go_wp2_with (at_make; refine wp_make64 rfl _ _ rfl T _ _ rfl rfl (by omega) (by omega) (by omega) ?_; intro w1 hbk1 hb1)
  go_loopw [6, 7, 8, 9] (fun iv _ _ _ wr => ∃ i : Nat, i ≤ n ∧ iv = .int .i64 i ∧ MhRel w w.heap.size T la lb i wr) (fun iv _ _ _ _ => n - (intOf iv).toNat)
  case atStart => exact ⟨0, Nat.zero_le _, rfl, _, ⟨by simp, Lim_replicate Hb0 _, by rw [vl_replicate]; simp [vl]⟩, hbk1, hb1⟩
  case round =>
    obtain ⟨i, hi, rfl, L0, k1, k2, k3⟩ := hrel
    clear hbk1 hb1
    by_cases hin : i < n
    · have hil : i < la.length := by have := H.out; omega
      obtain ⟨x, hx⟩ : ∃ x, la[i] = x := ⟨_, rfl⟩
      have bx := dig_lt (hla.get hil)
      rw [hx] at bx
      have hlast := fun L c (hh : MkInv T lb L0 i x lb.length L c) hj => MkInv.last k1 hla hlb hil hx hh hj
      have HLA := Lib.hid hlast; have HX := Lib.hid hx
      have hL0 := k1.1
      clear hlast hx
      go_wp2
      go_loopw [7, 8, 9] (fun cv kv _ wr => ∃ k : Nat, k ≤ n2 ∧ kv = .int .i64 k ∧ MkRel w w.heap.size T lb L0 i x cv k wr) (fun _ kv _ _ => n2 - (intOf kv).toNat)
      case atStart => exact ⟨0, Nat.zero_le _, rfl, L0, 0, rfl, ⟨hL0, k1.2.1, by omega, by omega, rfl, by simp [vl]⟩, k2, k3⟩
      case round =>
        clear k2 k3
        obtain ⟨k, hk, rfl, L, cy, rfl, j1, j2, j3⟩ := hrel
        have hLT := j1.1
        by_cases hkn : k < n2
        · have hkl : k < lb.length := by have := H2.out; omega
          have hikL : i + k < L.length := by have := HT.out; omega
          obtain ⟨b, of, rfl, hb, hc⟩ := (h.below j3).at_ (by omega)
          obtain ⟨b2, of2, rfl, hb2, hc2⟩ := (h2.below j3).at_ (by omega)
          have ca := hc i hil
          rw [HX.out] at ca
          have cb := hc2 k hkl
          have co := j2.cell (i + k) hikL
          have fo := j2.frozen (i + k)
          have bz := dig_lt (j1.2.1.get hikL)
          have by_ := dig_lt (hlb.get hkl)
          have hcy0 := j1.2.2.1
          have hcy1 := j1.2.2.2.1
          obtain ⟨S, hS⟩ : ∃ S, L[i + k] + x * lb[k] + cy = S := ⟨_, rfl⟩
          obtain ⟨st, hS0, hS1⟩ := j1.step bx hlb hkl hikL hS
          obtain ⟨er, eq⟩ := rem32 hS0 hS1
          have s1 := j2.set (i + k) (S % 4294967296)
          clear hc hc2
          generalize L[i + k] = z at *
          generalize lb[k] = y at *
          have hp := halves_mul x y ⟨bx.1, by omega⟩ ⟨by_.1, by omega⟩
          have ep0 : IntKind.u64.wrap (x * y) = x * y := by rw [wrap_u64]; omega
          obtain ⟨p, hpe⟩ : ∃ p, x * y = p := ⟨_, rfl⟩
          have f1 : IntKind.u64.wrap (IntKind.u64.wrap (z + IntKind.u64.wrap (x * y)) + cy) = S := by rw [ep0, hpe]; rw [hpe] at hp hS; simp only [wrap_u64]; omega
          have F1 := Lib.hid f1; clear f1
          rw [hpe] at hp ep0 hS
          have ep1 : IntKind.u64.wrap (z + p) = z + p := by rw [wrap_u64]; omega
          have ep2 : IntKind.u64.wrap (z + p + cy) = S := by rw [wrap_u64]; omega
          have ep2' : IntKind.u64.wrap S = S := by rw [wrap_u64]; omega
          obtain ⟨r, hr⟩ : ∃ r, S % 4294967296 = r := ⟨_, rfl⟩
          obtain ⟨q, hq⟩ : ∃ q, S / 4294967296 = q := ⟨_, rfl⟩
          rw [hr] at er st s1
          rw [hq] at eq st
          obtain ⟨u, hu⟩ : ∃ u, u = i + k := ⟨_, rfl⟩
          have eu : (i : Int) + k = u := by omega
          have eu2 : IntKind.i64.wrap ((i : Int) + k) = u := by rw [IntKind.wrap_i64]; omega
          have huT : (u : Int) < T := by have := HT.out; omega
          rw [← hu] at co fo s1
          have R : MkRel w w.heap.size T lb L0 i x (.int .u64 q) (k + 1) ((wr.setCell ⟨w.heap.size, u, none⟩ (.int .u64 r))) := ⟨_, _, rfl, by rw [hu] at *; exact st, s1, j3.setCell (Nat.le_refl _) _⟩
          have R' : ∀ nq, MkRel w w.heap.size T lb L0 i x (.int .u64 q) (k + 1) (((wr.drewN nq).setCell ⟨w.heap.size, u, none⟩ (.int .u64 r))) := fun nq => by
            obtain ⟨LL, cc, a1, a2, a3, a4⟩ := R
            exact ⟨LL, cc, a1, a2, a3, ⟨a4.os, a4.tape, a4.output, a4.size, a4.block⟩⟩
          have HR := Lib.hid R'
          have hkn' : (k : Int) < n2 := by omega
          have hin' : (i : Int) < n := by omega
          have HU := Lib.hid hu
          clear st s1 R R' j1 j2 j3 hr hq hu hLT hikL hpe
          go_wp2
          go_quiet (fail)
          have co' : (wr.drewN nq).cell? ⟨w.heap.size, u, none⟩ = _ := co
          have fo' : (wr.drewN nq).frozen? ⟨w.heap.size, u, none⟩ = _ := fo
          have R1 := HR.out nq
          generalize wr.drewN nq = wq at *
          clear co fo ca cb HR
          go_wp2
          go_roundw
          case rel => first | exact ⟨k + 1, by omega, by go_num, R1⟩ | (rw [F1.out, er, eq]; exact ⟨k + 1, by omega, by go_num, R1⟩)
          case measure => simp [intOf]; omega
        · obtain rfl : n2 = k := by omega
          have hln := H2.out
          have hj : i + lb.length < L.length := by have := HT.out; omega
          obtain ⟨hz, hst⟩ := HLA.out L cy (by rw [hln]; exact j1) hj
          have co := j2.cell (i + lb.length) hj
          rw [hz] at co
          have fo := j2.frozen (i + lb.length)
          have s1 := j2.set (i + lb.length) cy
          rw [hln] at co fo s1 hst
          have hcy0 := j1.2.2.1
          have hcy1 := j1.2.2.2.1
          obtain ⟨u, hu⟩ : ∃ u, u = i + n2 := ⟨_, rfl⟩
          have eu : (i : Int) + n2 = u := by omega
          have huT : (u : Int) < T := by have := HT.out; omega
          rw [← hu] at co fo s1 hst
          have R : MhRel w w.heap.size T la lb (i + 1) ((wr.setCell ⟨w.heap.size, u, none⟩ (.int .u64 cy))) := ⟨_, hst, s1, j3.setCell (Nat.le_refl _) _⟩
          have HU := Lib.hid hu
          clear hst s1 j1 j2 j3 hz hj hln hu hLT
          go_wp2
          go_roundw
          case rel => exact ⟨i + 1, by omega, by go_num, R⟩
          case measure => simp [intOf]; omega
    · obtain rfl : n = i := by omega
      obtain ⟨i1, i2, i3⟩ := k1
      rw [List.take_of_length_le (by have := H.out; omega)] at i3
      have hw3 := k2.whole (B := wr.heap.size) (n := T) (c := T) k2.lt i1 (Nat.le_refl _) (by omega) (Lim_Wd i2)
      have H3 := Lib.hid i3
      clear i1 i3
      go_wp2_with fail
      refine (Trim_any _ _ _ _ _ _ hw3 i2).mono ?_
      rintro e w' ⟨n5, rfl, _, hrd5, rfl⟩
      rw [H3.out] at hrd5
      go_wp2
      go_ret
      exact ⟨_, _, _, rfl, hrd5, k3⟩

set_option maxHeartbeats 400000 in
theorem RMul_any (A A2 : Option Addr) (n c n2 c2 : Nat) (l m : List Int) (w : World) (h : Rd w w.heap.size A n c l) (h2 : Rd w w.heap.size A2 n2 c2 m) (hn : n ≤ 1000000) (hn2 : n2 ≤ 1000000) :
    Calls Tryz.prog 109 #[.slice A n c, .slice A2 n2 c2] w (Out w (vl Wd l * vl Wd m)) := by
  have Z1 := Lib.hid (Sm.of h hn)
  have Z2 := Lib.hid (Sm.of h2 hn2)
  go_enter Tryz.func109, Tryz.ntmps109
  go_wp2_with fail
  refine (Digits_any _ _ _ _ _ h (by omega)).mono ?_
  rintro e w1 ⟨A1, n1, c1, rfl, g1, hb1⟩
  go_wp2_with fail
  refine (Digits_any _ _ _ _ _ ((h2.below hb1).more hb1.size) (by omega)).mono ?_
  rintro e w2 ⟨A3, n3, c3, rfl, g2, hb2⟩
  have g1 := (g1.below hb2).more hb2.size
  have hb := hb1.trans (hb2.mono hb1.size)
  have y1 := g1.smallH Z1.out
  have y2 := g2.smallH Z2.out
  have y3 := (Sm.mul Z1.out Z2.out).lenH
  have HY3 := Lib.hid y3
  clear Z1 Z2 y3
  go_wp2_with fail
  refine (rmul_any _ _ _ _ _ _ _ _ _ g1 g2 (Lim_dg Hb2 _) (Lim_dg Hb2 _) (by omega) (by omega)).mono ?_
  rintro e w3 ⟨A4, n4, c4, rfl, g3, hb3⟩
  rw [vl_dg Hb2, vl_dg Hb2] at g3
  have hb := hb.trans (hb3.mono hb.size)
  have y4 : n4 ≤ 4000000 := by have := HY3.out; rw [g3.len] at this; omega
  go_wp2_with fail
  refine (Limbs_any _ _ _ _ _ g3 (Lim_dg Hb2 _) (by omega)).mono ?_
  rintro e w4 ⟨A5, n5, c5, rfl, g4, hb4⟩
  rw [vl_dg Hb2] at g4
  have hb := hb.trans (hb4.mono hb.size)
  go_wp2
  go_ret
  exact ⟨_, _, _, rfl, g4, hb⟩
end
end Go.Proofs.YtbpamkpclofnbaaGreat
namespace Go.Proofs.YtbpamkpclofnbaaGreat
section
set_option maxRecDepth 100000
open Go.RowKit
set_option linter.unusedVariables false

theorem addn_same {X Y : Int} (h : ngB X = ngB Y) : X + Y = zi (ngB X) (X.natAbs + Y.natAbs) := by
  unfold ngB zi at *; by_cases hx : X < 0 <;> by_cases hy : Y < 0 <;> simp [hx, hy] at h ⊢ <;> omega
theorem addn_sub {X Y : Int} (h : ngB X ≠ ngB Y) (hle : Y.natAbs ≤ X.natAbs) : X + Y = zi (ngB X) (X.natAbs - Y.natAbs) := by
  unfold ngB zi at *; by_cases hx : X < 0 <;> by_cases hy : Y < 0 <;> simp [hx, hy] at h ⊢ <;> omega
theorem addn_sub' {X Y : Int} (h : ngB X ≠ ngB Y) (hlt : X.natAbs < Y.natAbs) : X + Y = zi (ngB Y) (Y.natAbs - X.natAbs) := by
  unfold ngB zi at *; by_cases hx : X < 0 <;> by_cases hy : Y < 0 <;> simp [hx, hy] at h ⊢ <;> omega

set_option maxRecDepth 100000 in
set_option maxHeartbeats 8000000 in
theorem RAddZ_any {b b2 : Bool} {A A2 : Option Addr} {n c n2 c2 : Nat} {X Y : Int} {j j2 : Nat} {w : World} (h : Zr w b A n c X j) (h2 : Zr w b2 A2 n2 c2 Y j2) (k : Nat) (hk : j + 1 ≤ k) (hk2 : j2 + 1 ≤ k) (hj : k ≤ 100000) :
    Calls Tryz.prog 50 #[.agg #[.bool b, .slice A n c], .agg #[.bool b2, .slice A2 n2 c2]] w (OutZ w (X + Y) k) := by
  have hs : Sm X.natAbs (k - 1) := (h.si).mono (by omega)
  have hs2 : Sm Y.natAbs (k - 1) := (h2.si).mono (by omega)
  by_cases hbb : ngB X = ngB Y
  · have hbt : (ngB X == ngB Y) = true := by simp [hbb]
    rw [addn_same hbb]
    have hs3 : Sm (X.natAbs + Y.natAbs) k := (hs.add hs2).mono (by omega)
    clear hs hs2 hbb
    go_enter Tryz.func50, Tryz.ntmps50
    go_wp2_with fail
    obtain ⟨hb, x_a, x_b, x_r⟩ := box3 w b A n c b2 A2 n2 c2 false none 0 0
    generalize ((w.alloc (.cells #[.bool b, .slice A n c] 30)).alloc (.cells #[.bool b2, .slice A2 n2 c2] 30)).alloc (.cells #[.bool false, .slice none 0 0] 30) = v1 at *
    obtain ⟨h, h2⟩ := mv2 hb h h2
    have q_a := x_a.al
    have q_b := x_b.al
    have q_r := x_r.al
    go_wp2_with fail
    with_reducible refine (RNormZ_any h j (Nat.le_refl _) (by omega)).mono ?_
    rintro e v2 ⟨A3, n3, c3, rfl, za, hb1⟩
    obtain ⟨x_a, x_b, x_r, h, h2⟩ := mv5 hb1 x_a x_b x_r h h2
    replace hb := bthen hb hb1
    clear hb1
    replace q_a := x_a.al
    replace q_b := x_b.al
    replace q_r := x_r.al
    clear h
    go_wp2_with fail
    replace x_b := x_b.aside (b' := (ngB X)) (A' := A3) (n' := n3) (c' := c3) (g := w.heap.size) (by omega)
    replace x_r := x_r.aside (b' := (ngB X)) (A' := A3) (n' := n3) (c' := c3) (g := w.heap.size) (by omega)
    replace h2 := h2.put (b' := (ngB X)) (A' := A3) (n' := n3) (c' := c3) x_a
    replace za := za.put (b' := (ngB X)) (A' := A3) (n' := n3) (c' := c3) x_a
    replace hb := put_below (g := w.heap.size) hb (by omega) (.bool (ngB X)) (.slice A3 n3 c3)
    replace x_a := x_a.put (ngB X) A3 n3 c3
    clear q_a q_b q_r
    generalize (v2.setCell ⟨w.heap.size, 0, none⟩ (.bool (ngB X))).setCell ⟨w.heap.size, 1, none⟩ (.slice A3 n3 c3) = v3 at *
    have q_a := x_a.al
    have q_b := x_b.al
    have q_r := x_r.al
    with_reducible refine (RNormZ_any h2 j2 (Nat.le_refl _) (by omega)).mono ?_
    rintro e v4 ⟨A4, n4, c4, rfl, zb, hb1⟩
    obtain ⟨x_a, x_b, x_r, h2, za⟩ := mv5 hb1 x_a x_b x_r h2 za
    replace hb := bthen hb hb1
    clear hb1
    replace q_a := x_a.al
    replace q_b := x_b.al
    replace q_r := x_r.al
    clear h2
    go_wp2_with fail
    replace x_a := x_a.aside (b' := (ngB Y)) (A' := A4) (n' := n4) (c' := c4) (g := w.heap.size + 1) (by omega)
    replace x_r := x_r.aside (b' := (ngB Y)) (A' := A4) (n' := n4) (c' := c4) (g := w.heap.size + 1) (by omega)
    replace za := za.put (b' := (ngB Y)) (A' := A4) (n' := n4) (c' := c4) x_b
    replace zb := zb.put (b' := (ngB Y)) (A' := A4) (n' := n4) (c' := c4) x_b
    replace hb := put_below (g := w.heap.size + 1) hb (by omega) (.bool (ngB Y)) (.slice A4 n4 c4)
    replace x_b := x_b.put (ngB Y) A4 n4 c4
    clear q_a q_b q_r
    generalize (v4.setCell ⟨w.heap.size + 1, 0, none⟩ (.bool (ngB Y))).setCell ⟨w.heap.size + 1, 1, none⟩ (.slice A4 n4 c4) = v5 at *
    have q_a := x_a.al
    have q_b := x_b.al
    have q_r := x_r.al
    have ha := za.1; have hz1 := za.2; have hbz := zb.1; have hz2 := zb.2
    clear za zb
    skip
    go_region_held3 (fun w' => w'.cell? ⟨w.heap.size, 0, none⟩ = some (.bool (ngB X)) ∧ w'.cell? ⟨w.heap.size, 1, none⟩ = some (.slice A3 n3 c3) ∧ w'.cell? ⟨w.heap.size + 1, 0, none⟩ = some (.bool (ngB Y)) ∧ w'.cell? ⟨w.heap.size + 1, 1, none⟩ = some (.slice A4 n4 c4))
      (first | (with_reducible exact ⟨x_a.c0, x_a.c1, x_b.c0, x_b.c1⟩) | (with_reducible exact ⟨(x_a.aside (by omega)).c0, (x_a.aside (by omega)).c1, (x_b.aside (by omega)).c0, (x_b.aside (by omega)).c1⟩) | (with_reducible exact ⟨((x_a.aside (by omega)).aside (by omega)).c0, ((x_a.aside (by omega)).aside (by omega)).c1, ((x_b.aside (by omega)).aside (by omega)).c0, ((x_b.aside (by omega)).aside (by omega)).c1⟩) | go_keep)
      (first | (go_at_call 110; (with_reducible refine (RAdd_any _ _ _ _ _ _ _ _ _ ha.drw hbz.drw (by omega) (by omega)).mono ?_); rintro e v6 ⟨A1, n1, c1, rfl, g1, hb1⟩; replace hb1 := undrew hb1; obtain ⟨x_a, x_b, x_r⟩ := mv3 hb1 x_a x_b x_r; replace ha := ha.go hb1; replace hbz := hbz.go hb1; replace hb := bthen hb hb1; clear hb1; replace q_a := x_a.al; replace q_b := x_b.al; replace q_r := x_r.al; rw [vl_dg Wd2, vl_dg Wd2] at g1; have zn1 := g1.small hs3) | (go_at_call 108; (with_reducible refine (RMake_any (b := ngB X) g1 (X.natAbs + Y.natAbs) k (vl_dg Wd2 _) hs3 (by omega)).mono ?_); rintro e v7 ⟨A2_, n2_, c2_, rfl, z1, hb1⟩; obtain ⟨x_a, x_b, x_r⟩ := mv3 hb1 x_a x_b x_r; replace ha := ha.go hb1; replace hbz := hbz.go hb1; replace g1 := g1.go hb1; replace hb := bthen hb hb1; clear hb1; replace q_a := x_a.al; replace q_b := x_b.al; replace q_r := x_r.al))
    go_wp2
    replace x_a := x_a.aside (b' := (ngB (zi (ngB X) (X.natAbs + Y.natAbs)))) (A' := A2_) (n' := n2_) (c' := c2_) (g := w.heap.size + 1 + 1) (by omega)
    replace x_b := x_b.aside (b' := (ngB (zi (ngB X) (X.natAbs + Y.natAbs)))) (A' := A2_) (n' := n2_) (c' := c2_) (g := w.heap.size + 1 + 1) (by omega)
    replace ha := ha.sput (b' := (ngB (zi (ngB X) (X.natAbs + Y.natAbs)))) (A' := A2_) (n' := n2_) (c' := c2_) x_r
    replace hbz := hbz.sput (b' := (ngB (zi (ngB X) (X.natAbs + Y.natAbs)))) (A' := A2_) (n' := n2_) (c' := c2_) x_r
    replace g1 := g1.sput (b' := (ngB (zi (ngB X) (X.natAbs + Y.natAbs)))) (A' := A2_) (n' := n2_) (c' := c2_) x_r
    replace z1 := z1.put (b' := (ngB (zi (ngB X) (X.natAbs + Y.natAbs)))) (A' := A2_) (n' := n2_) (c' := c2_) x_r
    replace hb := put_below (g := w.heap.size + 1 + 1) hb (by omega) (.bool (ngB (zi (ngB X) (X.natAbs + Y.natAbs)))) (.slice A2_ n2_ c2_)
    replace x_r := x_r.put (ngB (zi (ngB X) (X.natAbs + Y.natAbs))) A2_ n2_ c2_
    clear q_a q_b q_r
    generalize (v7.setCell ⟨w.heap.size + 1 + 1, 0, none⟩ (.bool (ngB (zi (ngB X) (X.natAbs + Y.natAbs))))).setCell ⟨w.heap.size + 1 + 1, 1, none⟩ (.slice A2_ n2_ c2_) = v8 at *
    have q_a := x_a.al
    have q_b := x_b.al
    have q_r := x_r.al
    refine bodyPost_ret (v := .agg #[.bool (ngB (zi (ngB X) (X.natAbs + Y.natAbs))), .slice A2_ n2_ c2_]) (by simp [results, Tryz.results50, go_sem, q_r]) rfl ?_
    exact ⟨_, _, _, rfl, z1, hb⟩
  · have hbt : (ngB X == ngB Y) = false := by simpa using hbb
    rcases Nat.lt_or_ge X.natAbs Y.natAbs with hlt | hge
    · rw [addn_sub' hbb hlt]
      have hs3 : Sm (Y.natAbs - X.natAbs) k := (hs2.mono (by omega)).sub
      clear hs hs2 hbb
      go_enter Tryz.func50, Tryz.ntmps50
      go_wp2_with fail
      obtain ⟨hb, x_a, x_b, x_r⟩ := box3 w b A n c b2 A2 n2 c2 false none 0 0
      generalize ((w.alloc (.cells #[.bool b, .slice A n c] 30)).alloc (.cells #[.bool b2, .slice A2 n2 c2] 30)).alloc (.cells #[.bool false, .slice none 0 0] 30) = v1 at *
      obtain ⟨h, h2⟩ := mv2 hb h h2
      have q_a := x_a.al
      have q_b := x_b.al
      have q_r := x_r.al
      go_wp2_with fail
      with_reducible refine (RNormZ_any h j (Nat.le_refl _) (by omega)).mono ?_
      rintro e v2 ⟨A3, n3, c3, rfl, za, hb1⟩
      obtain ⟨x_a, x_b, x_r, h, h2⟩ := mv5 hb1 x_a x_b x_r h h2
      replace hb := bthen hb hb1
      clear hb1
      replace q_a := x_a.al
      replace q_b := x_b.al
      replace q_r := x_r.al
      clear h
      go_wp2_with fail
      replace x_b := x_b.aside (b' := (ngB X)) (A' := A3) (n' := n3) (c' := c3) (g := w.heap.size) (by omega)
      replace x_r := x_r.aside (b' := (ngB X)) (A' := A3) (n' := n3) (c' := c3) (g := w.heap.size) (by omega)
      replace h2 := h2.put (b' := (ngB X)) (A' := A3) (n' := n3) (c' := c3) x_a
      replace za := za.put (b' := (ngB X)) (A' := A3) (n' := n3) (c' := c3) x_a
      replace hb := put_below (g := w.heap.size) hb (by omega) (.bool (ngB X)) (.slice A3 n3 c3)
      replace x_a := x_a.put (ngB X) A3 n3 c3
      clear q_a q_b q_r
      generalize (v2.setCell ⟨w.heap.size, 0, none⟩ (.bool (ngB X))).setCell ⟨w.heap.size, 1, none⟩ (.slice A3 n3 c3) = v3 at *
      have q_a := x_a.al
      have q_b := x_b.al
      have q_r := x_r.al
      with_reducible refine (RNormZ_any h2 j2 (Nat.le_refl _) (by omega)).mono ?_
      rintro e v4 ⟨A4, n4, c4, rfl, zb, hb1⟩
      obtain ⟨x_a, x_b, x_r, h2, za⟩ := mv5 hb1 x_a x_b x_r h2 za
      replace hb := bthen hb hb1
      clear hb1
      replace q_a := x_a.al
      replace q_b := x_b.al
      replace q_r := x_r.al
      clear h2
      go_wp2_with fail
      replace x_a := x_a.aside (b' := (ngB Y)) (A' := A4) (n' := n4) (c' := c4) (g := w.heap.size + 1) (by omega)
      replace x_r := x_r.aside (b' := (ngB Y)) (A' := A4) (n' := n4) (c' := c4) (g := w.heap.size + 1) (by omega)
      replace za := za.put (b' := (ngB Y)) (A' := A4) (n' := n4) (c' := c4) x_b
      replace zb := zb.put (b' := (ngB Y)) (A' := A4) (n' := n4) (c' := c4) x_b
      replace hb := put_below (g := w.heap.size + 1) hb (by omega) (.bool (ngB Y)) (.slice A4 n4 c4)
      replace x_b := x_b.put (ngB Y) A4 n4 c4
      clear q_a q_b q_r
      generalize (v4.setCell ⟨w.heap.size + 1, 0, none⟩ (.bool (ngB Y))).setCell ⟨w.heap.size + 1, 1, none⟩ (.slice A4 n4 c4) = v5 at *
      have q_a := x_a.al
      have q_b := x_b.al
      have q_r := x_r.al
      have ha := za.1; have hz1 := za.2; have hbz := zb.1; have hz2 := zb.2
      clear za zb
      skip
      with_reducible refine (RSub_less _ _ _ _ _ _ _ _ _ ha hbz (by omega) (by omega) (by rw [vl_dg Wd2, vl_dg Wd2]; exact hlt)).mono ?_
      rintro e v6 ⟨rfl, hb1⟩
      obtain ⟨x_a, x_b, x_r⟩ := mv3 hb1 x_a x_b x_r
      replace ha := ha.go hb1
      replace hbz := hbz.go hb1
      replace hb := bthen hb hb1
      clear hb1
      replace q_a := x_a.al
      replace q_b := x_b.al
      replace q_r := x_r.al
      go_wp2_with fail
      with_reducible refine (RSub_any _ _ _ _ _ _ _ _ _ hbz ha (by omega) (by omega) (by rw [vl_dg Wd2, vl_dg Wd2]; omega)).mono ?_
      rintro e v7 ⟨A1, n1, c1, rfl, g1, hb1⟩
      obtain ⟨x_a, x_b, x_r⟩ := mv3 hb1 x_a x_b x_r
      replace ha := ha.go hb1
      replace hbz := hbz.go hb1
      replace hb := bthen hb hb1
      clear hb1
      replace q_a := x_a.al
      replace q_b := x_b.al
      replace q_r := x_r.al
      rw [vl_dg Wd2, vl_dg Wd2] at g1
      have zn1 := g1.small hs3
      go_wp2_with fail
      with_reducible refine (RMake_any (b := ngB Y) g1 (Y.natAbs - X.natAbs) k (vl_dg Wd2 _) hs3 (by omega)).mono ?_
      rintro e v8 ⟨A2_, n2_, c2_, rfl, z1, hb1⟩
      obtain ⟨x_a, x_b, x_r⟩ := mv3 hb1 x_a x_b x_r
      replace ha := ha.go hb1
      replace hbz := hbz.go hb1
      replace g1 := g1.go hb1
      replace hb := bthen hb hb1
      clear hb1
      replace q_a := x_a.al
      replace q_b := x_b.al
      replace q_r := x_r.al
      go_wp2
      replace x_a := x_a.aside (b' := (ngB (zi (ngB Y) (Y.natAbs - X.natAbs)))) (A' := A2_) (n' := n2_) (c' := c2_) (g := w.heap.size + 1 + 1) (by omega)
      replace x_b := x_b.aside (b' := (ngB (zi (ngB Y) (Y.natAbs - X.natAbs)))) (A' := A2_) (n' := n2_) (c' := c2_) (g := w.heap.size + 1 + 1) (by omega)
      replace ha := ha.sput (b' := (ngB (zi (ngB Y) (Y.natAbs - X.natAbs)))) (A' := A2_) (n' := n2_) (c' := c2_) x_r
      replace hbz := hbz.sput (b' := (ngB (zi (ngB Y) (Y.natAbs - X.natAbs)))) (A' := A2_) (n' := n2_) (c' := c2_) x_r
      replace g1 := g1.sput (b' := (ngB (zi (ngB Y) (Y.natAbs - X.natAbs)))) (A' := A2_) (n' := n2_) (c' := c2_) x_r
      replace z1 := z1.put (b' := (ngB (zi (ngB Y) (Y.natAbs - X.natAbs)))) (A' := A2_) (n' := n2_) (c' := c2_) x_r
      replace hb := put_below (g := w.heap.size + 1 + 1) hb (by omega) (.bool (ngB (zi (ngB Y) (Y.natAbs - X.natAbs)))) (.slice A2_ n2_ c2_)
      replace x_r := x_r.put (ngB (zi (ngB Y) (Y.natAbs - X.natAbs))) A2_ n2_ c2_
      clear q_a q_b q_r
      generalize (v8.setCell ⟨w.heap.size + 1 + 1, 0, none⟩ (.bool (ngB (zi (ngB Y) (Y.natAbs - X.natAbs))))).setCell ⟨w.heap.size + 1 + 1, 1, none⟩ (.slice A2_ n2_ c2_) = v9 at *
      have q_a := x_a.al
      have q_b := x_b.al
      have q_r := x_r.al
      refine bodyPost_ret (v := .agg #[.bool (ngB (zi (ngB Y) (Y.natAbs - X.natAbs))), .slice A2_ n2_ c2_]) (by simp [results, Tryz.results50, go_sem, q_r]) rfl ?_
      exact ⟨_, _, _, rfl, z1, hb⟩
    · rw [addn_sub hbb hge]
      have hs3 : Sm (X.natAbs - Y.natAbs) k := (hs.mono (by omega)).sub
      clear hs hs2 hbb
      go_enter Tryz.func50, Tryz.ntmps50
      go_wp2_with fail
      obtain ⟨hb, x_a, x_b, x_r⟩ := box3 w b A n c b2 A2 n2 c2 false none 0 0
      generalize ((w.alloc (.cells #[.bool b, .slice A n c] 30)).alloc (.cells #[.bool b2, .slice A2 n2 c2] 30)).alloc (.cells #[.bool false, .slice none 0 0] 30) = v1 at *
      obtain ⟨h, h2⟩ := mv2 hb h h2
      have q_a := x_a.al
      have q_b := x_b.al
      have q_r := x_r.al
      go_wp2_with fail
      with_reducible refine (RNormZ_any h j (Nat.le_refl _) (by omega)).mono ?_
      rintro e v2 ⟨A3, n3, c3, rfl, za, hb1⟩
      obtain ⟨x_a, x_b, x_r, h, h2⟩ := mv5 hb1 x_a x_b x_r h h2
      replace hb := bthen hb hb1
      clear hb1
      replace q_a := x_a.al
      replace q_b := x_b.al
      replace q_r := x_r.al
      clear h
      go_wp2_with fail
      replace x_b := x_b.aside (b' := (ngB X)) (A' := A3) (n' := n3) (c' := c3) (g := w.heap.size) (by omega)
      replace x_r := x_r.aside (b' := (ngB X)) (A' := A3) (n' := n3) (c' := c3) (g := w.heap.size) (by omega)
      replace h2 := h2.put (b' := (ngB X)) (A' := A3) (n' := n3) (c' := c3) x_a
      replace za := za.put (b' := (ngB X)) (A' := A3) (n' := n3) (c' := c3) x_a
      replace hb := put_below (g := w.heap.size) hb (by omega) (.bool (ngB X)) (.slice A3 n3 c3)
      replace x_a := x_a.put (ngB X) A3 n3 c3
      clear q_a q_b q_r
      generalize (v2.setCell ⟨w.heap.size, 0, none⟩ (.bool (ngB X))).setCell ⟨w.heap.size, 1, none⟩ (.slice A3 n3 c3) = v3 at *
      have q_a := x_a.al
      have q_b := x_b.al
      have q_r := x_r.al
      with_reducible refine (RNormZ_any h2 j2 (Nat.le_refl _) (by omega)).mono ?_
      rintro e v4 ⟨A4, n4, c4, rfl, zb, hb1⟩
      obtain ⟨x_a, x_b, x_r, h2, za⟩ := mv5 hb1 x_a x_b x_r h2 za
      replace hb := bthen hb hb1
      clear hb1
      replace q_a := x_a.al
      replace q_b := x_b.al
      replace q_r := x_r.al
      clear h2
      go_wp2_with fail
      replace x_a := x_a.aside (b' := (ngB Y)) (A' := A4) (n' := n4) (c' := c4) (g := w.heap.size + 1) (by omega)
      replace x_r := x_r.aside (b' := (ngB Y)) (A' := A4) (n' := n4) (c' := c4) (g := w.heap.size + 1) (by omega)
      replace za := za.put (b' := (ngB Y)) (A' := A4) (n' := n4) (c' := c4) x_b
      replace zb := zb.put (b' := (ngB Y)) (A' := A4) (n' := n4) (c' := c4) x_b
      replace hb := put_below (g := w.heap.size + 1) hb (by omega) (.bool (ngB Y)) (.slice A4 n4 c4)
      replace x_b := x_b.put (ngB Y) A4 n4 c4
      clear q_a q_b q_r
      generalize (v4.setCell ⟨w.heap.size + 1, 0, none⟩ (.bool (ngB Y))).setCell ⟨w.heap.size + 1, 1, none⟩ (.slice A4 n4 c4) = v5 at *
      have q_a := x_a.al
      have q_b := x_b.al
      have q_r := x_r.al
      have ha := za.1; have hz1 := za.2; have hbz := zb.1; have hz2 := zb.2
      clear za zb
      skip
      with_reducible refine (RSub_any _ _ _ _ _ _ _ _ _ ha hbz (by omega) (by omega) (by rw [vl_dg Wd2, vl_dg Wd2]; exact hge)).mono ?_
      rintro e v6 ⟨A1, n1, c1, rfl, g1, hb1⟩
      obtain ⟨x_a, x_b, x_r⟩ := mv3 hb1 x_a x_b x_r
      replace ha := ha.go hb1
      replace hbz := hbz.go hb1
      replace hb := bthen hb hb1
      clear hb1
      replace q_a := x_a.al
      replace q_b := x_b.al
      replace q_r := x_r.al
      rw [vl_dg Wd2, vl_dg Wd2] at g1
      have zn1 := g1.small hs3
      go_wp2_with fail
      with_reducible refine (RMake_any (b := ngB X) g1 (X.natAbs - Y.natAbs) k (vl_dg Wd2 _) hs3 (by omega)).mono ?_
      rintro e v7 ⟨A2_, n2_, c2_, rfl, z1, hb1⟩
      obtain ⟨x_a, x_b, x_r⟩ := mv3 hb1 x_a x_b x_r
      replace ha := ha.go hb1
      replace hbz := hbz.go hb1
      replace g1 := g1.go hb1
      replace hb := bthen hb hb1
      clear hb1
      replace q_a := x_a.al
      replace q_b := x_b.al
      replace q_r := x_r.al
      go_wp2
      replace x_a := x_a.aside (b' := (ngB (zi (ngB X) (X.natAbs - Y.natAbs)))) (A' := A2_) (n' := n2_) (c' := c2_) (g := w.heap.size + 1 + 1) (by omega)
      replace x_b := x_b.aside (b' := (ngB (zi (ngB X) (X.natAbs - Y.natAbs)))) (A' := A2_) (n' := n2_) (c' := c2_) (g := w.heap.size + 1 + 1) (by omega)
      replace ha := ha.sput (b' := (ngB (zi (ngB X) (X.natAbs - Y.natAbs)))) (A' := A2_) (n' := n2_) (c' := c2_) x_r
      replace hbz := hbz.sput (b' := (ngB (zi (ngB X) (X.natAbs - Y.natAbs)))) (A' := A2_) (n' := n2_) (c' := c2_) x_r
      replace g1 := g1.sput (b' := (ngB (zi (ngB X) (X.natAbs - Y.natAbs)))) (A' := A2_) (n' := n2_) (c' := c2_) x_r
      replace z1 := z1.put (b' := (ngB (zi (ngB X) (X.natAbs - Y.natAbs)))) (A' := A2_) (n' := n2_) (c' := c2_) x_r
      replace hb := put_below (g := w.heap.size + 1 + 1) hb (by omega) (.bool (ngB (zi (ngB X) (X.natAbs - Y.natAbs)))) (.slice A2_ n2_ c2_)
      replace x_r := x_r.put (ngB (zi (ngB X) (X.natAbs - Y.natAbs))) A2_ n2_ c2_
      clear q_a q_b q_r
      generalize (v7.setCell ⟨w.heap.size + 1 + 1, 0, none⟩ (.bool (ngB (zi (ngB X) (X.natAbs - Y.natAbs))))).setCell ⟨w.heap.size + 1 + 1, 1, none⟩ (.slice A2_ n2_ c2_) = v8 at *
      have q_a := x_a.al
      have q_b := x_b.al
      have q_r := x_r.al
      refine bodyPost_ret (v := .agg #[.bool (ngB (zi (ngB X) (X.natAbs - Y.natAbs))), .slice A2_ n2_ c2_]) (by simp [results, Tryz.results50, go_sem, q_r]) rfl ?_
      exact ⟨_, _, _, rfl, z1, hb⟩

set_option maxRecDepth 100000 in
set_option maxHeartbeats 4000000 in
theorem RSubZ_any {b b2 : Bool} {A A2 : Option Addr} {n c n2 c2 : Nat} {X Y : Int} {j j2 : Nat} {w : World} (h : Zr w b A n c X j) (h2 : Zr w b2 A2 n2 c2 Y j2) (k : Nat) (hk : j + 1 ≤ k) (hk2 : j2 + 1 ≤ k) (hj : k ≤ 100000) :
    Calls Tryz.prog 53 #[.agg #[.bool b, .slice A n c], .agg #[.bool b2, .slice A2 n2 c2]] w (OutZ w (X - Y) k) := by
  rw [Int.sub_eq_add_neg]
  go_enter Tryz.func53, Tryz.ntmps53
  go_wp2_with fail
  obtain ⟨hb, x_a, x_b, x_r⟩ := box3 w b A n c b2 A2 n2 c2 false none 0 0
  generalize ((w.alloc (.cells #[.bool b, .slice A n c] 30)).alloc (.cells #[.bool b2, .slice A2 n2 c2] 30)).alloc (.cells #[.bool false, .slice none 0 0] 30) = v1 at *
  obtain ⟨h, h2⟩ := mv2 hb h h2
  have q_a := x_a.al
  have q_b := x_b.al
  have q_r := x_r.al
  go_wp2_with fail
  go_region_held3 (fun w' => w'.cell? ⟨w.heap.size, 0, none⟩ = some (.bool b) ∧ w'.cell? ⟨w.heap.size, 1, none⟩ = some (.slice A n c) ∧ w'.cell? ⟨w.heap.size + 1, 0, none⟩ = some (.bool b2) ∧ w'.cell? ⟨w.heap.size + 1, 1, none⟩ = some (.slice A2 n2 c2))
    (first | (with_reducible exact ⟨x_a.c0, x_a.c1, x_b.c0, x_b.c1⟩) | (with_reducible exact ⟨(x_a.aside (by omega)).c0, (x_a.aside (by omega)).c1, (x_b.aside (by omega)).c0, (x_b.aside (by omega)).c1⟩) | (with_reducible exact ⟨((x_a.aside (by omega)).aside (by omega)).c0, ((x_a.aside (by omega)).aside (by omega)).c1, ((x_b.aside (by omega)).aside (by omega)).c0, ((x_b.aside (by omega)).aside (by omega)).c1⟩) | go_keep)
    (first | (go_at_call 51; (with_reducible refine (RNegZ_any h2.drw j2 (Nat.le_refl _) (by omega)).mono ?_); rintro e v2 ⟨A3, n3, c3, rfl, z3, hb1⟩; replace hb1 := undrew hb1; obtain ⟨x_a, x_b, x_r, h, h2⟩ := mv5 hb1 x_a x_b x_r h h2; replace hb := bthen hb hb1; clear hb1; replace q_a := x_a.al; replace q_b := x_b.al; replace q_r := x_r.al) | (go_at_call 50; (with_reducible refine (RAddZ_any h z3.zr k hk hk2 hj).mono ?_); rintro e v3 ⟨A1, n1, c1, rfl, z1, hb1⟩; obtain ⟨x_a, x_b, x_r, h, h2, z3⟩ := mv6 hb1 x_a x_b x_r h h2 z3; replace hb := bthen hb hb1; clear hb1; replace q_a := x_a.al; replace q_b := x_b.al; replace q_r := x_r.al))
  go_wp2
  replace x_a := x_a.aside (b' := (ngB (X + -Y))) (A' := A1) (n' := n1) (c' := c1) (g := w.heap.size + 1 + 1) (by omega)
  replace x_b := x_b.aside (b' := (ngB (X + -Y))) (A' := A1) (n' := n1) (c' := c1) (g := w.heap.size + 1 + 1) (by omega)
  replace h := h.put (b' := (ngB (X + -Y))) (A' := A1) (n' := n1) (c' := c1) x_r
  replace h2 := h2.put (b' := (ngB (X + -Y))) (A' := A1) (n' := n1) (c' := c1) x_r
  replace z3 := z3.put (b' := (ngB (X + -Y))) (A' := A1) (n' := n1) (c' := c1) x_r
  replace z1 := z1.put (b' := (ngB (X + -Y))) (A' := A1) (n' := n1) (c' := c1) x_r
  replace hb := put_below (g := w.heap.size + 1 + 1) hb (by omega) (.bool (ngB (X + -Y))) (.slice A1 n1 c1)
  replace x_r := x_r.put (ngB (X + -Y)) A1 n1 c1
  clear q_a q_b q_r
  generalize (v3.setCell ⟨w.heap.size + 1 + 1, 0, none⟩ (.bool (ngB (X + -Y)))).setCell ⟨w.heap.size + 1 + 1, 1, none⟩ (.slice A1 n1 c1) = v4 at *
  have q_a := x_a.al
  have q_b := x_b.al
  have q_r := x_r.al
  refine bodyPost_ret (v := .agg #[.bool (ngB (X + -Y)), .slice A1 n1 c1]) (by simp [results, Tryz.results53, go_sem, q_r]) rfl ?_
  exact ⟨_, _, _, rfl, z1, hb⟩

set_option maxRecDepth 100000 in
set_option maxHeartbeats 4000000 in
theorem RMulZ_any {b b2 : Bool} {A A2 : Option Addr} {n c n2 c2 : Nat} {X Y : Int} {j j2 : Nat} {w : World} (h : Zr w b A n c X j) (h2 : Zr w b2 A2 n2 c2 Y j2) (k : Nat) (hk : j + j2 ≤ k) (hj : k ≤ 100000) :
    Calls Tryz.prog 49 #[.agg #[.bool b, .slice A n c], .agg #[.bool b2, .slice A2 n2 c2]] w (OutZ w (X * Y) k) := by
  obtain ⟨l, h, rfl, hn⟩ := h
  obtain ⟨m, h2, rfl, hn2⟩ := h2
  have hs := Sm.of h hn
  have hs2 := Sm.of h2 hn2
  generalize hN : vl Wd l = N at *
  have HN := Lib.hid hN; clear hN
  generalize hM : vl Wd m = M at *
  have HM := Lib.hid hM; clear hM
  rw [zi_mul']
  have hs3 : Sm (N * M) k := (hs.mul hs2).mono hk
  clear hs hs2
  go_enter Tryz.func49, Tryz.ntmps49
  go_wp2_with fail
  obtain ⟨hb, x_a, x_b, x_r⟩ := box3 w b A n c b2 A2 n2 c2 false none 0 0
  generalize ((w.alloc (.cells #[.bool b, .slice A n c] 30)).alloc (.cells #[.bool b2, .slice A2 n2 c2] 30)).alloc (.cells #[.bool false, .slice none 0 0] 30) = v1 at *
  replace h := h.go hb
  replace h2 := h2.go hb
  have q_a := x_a.al
  have q_b := x_b.al
  have q_r := x_r.al
  go_wp2_with fail
  go_region_held3 (fun w' => w'.cell? ⟨w.heap.size, 0, none⟩ = some (.bool b) ∧ w'.cell? ⟨w.heap.size, 1, none⟩ = some (.slice A n c) ∧ w'.cell? ⟨w.heap.size + 1, 0, none⟩ = some (.bool b2) ∧ w'.cell? ⟨w.heap.size + 1, 1, none⟩ = some (.slice A2 n2 c2))
    (first | (with_reducible exact ⟨x_a.c0, x_a.c1, x_b.c0, x_b.c1⟩) | (with_reducible exact ⟨(x_a.aside (by omega)).c0, (x_a.aside (by omega)).c1, (x_b.aside (by omega)).c0, (x_b.aside (by omega)).c1⟩) | (with_reducible exact ⟨((x_a.aside (by omega)).aside (by omega)).c0, ((x_a.aside (by omega)).aside (by omega)).c1, ((x_b.aside (by omega)).aside (by omega)).c0, ((x_b.aside (by omega)).aside (by omega)).c1⟩) | go_keep)
    (first | (go_at_call 109; (with_reducible refine (RMul_any _ _ _ _ _ _ _ _ _ h.drw h2.drw (by omega) (by omega)).mono ?_); rintro e v2 ⟨A1, n1, c1, rfl, g1, hb1⟩; replace hb1 := undrew hb1; obtain ⟨x_a, x_b, x_r⟩ := mv3 hb1 x_a x_b x_r; replace h := h.go hb1; replace h2 := h2.go hb1; replace hb := bthen hb hb1; clear hb1; replace q_a := x_a.al; replace q_b := x_b.al; replace q_r := x_r.al; rw [HN.out, HM.out] at g1; have zn1 := g1.small hs3) | (go_at_call 108; (with_reducible refine (RMake_any (b := (!(b == b2))) g1 (N * M) k (vl_dg Wd2 _) hs3 (by omega)).mono ?_); rintro e v3 ⟨A2_, n2_, c2_, rfl, z1, hb1⟩; obtain ⟨x_a, x_b, x_r⟩ := mv3 hb1 x_a x_b x_r; replace h := h.go hb1; replace h2 := h2.go hb1; replace g1 := g1.go hb1; replace hb := bthen hb hb1; clear hb1; replace q_a := x_a.al; replace q_b := x_b.al; replace q_r := x_r.al))
  go_wp2
  replace x_a := x_a.aside (b' := (ngB (zi (!(b == b2)) (N * M)))) (A' := A2_) (n' := n2_) (c' := c2_) (g := w.heap.size + 1 + 1) (by omega)
  replace x_b := x_b.aside (b' := (ngB (zi (!(b == b2)) (N * M)))) (A' := A2_) (n' := n2_) (c' := c2_) (g := w.heap.size + 1 + 1) (by omega)
  replace h := h.sput (b' := (ngB (zi (!(b == b2)) (N * M)))) (A' := A2_) (n' := n2_) (c' := c2_) x_r
  replace h2 := h2.sput (b' := (ngB (zi (!(b == b2)) (N * M)))) (A' := A2_) (n' := n2_) (c' := c2_) x_r
  replace g1 := g1.sput (b' := (ngB (zi (!(b == b2)) (N * M)))) (A' := A2_) (n' := n2_) (c' := c2_) x_r
  replace z1 := z1.put (b' := (ngB (zi (!(b == b2)) (N * M)))) (A' := A2_) (n' := n2_) (c' := c2_) x_r
  replace hb := put_below (g := w.heap.size + 1 + 1) hb (by omega) (.bool (ngB (zi (!(b == b2)) (N * M)))) (.slice A2_ n2_ c2_)
  replace x_r := x_r.put (ngB (zi (!(b == b2)) (N * M))) A2_ n2_ c2_
  clear q_a q_b q_r
  generalize (v3.setCell ⟨w.heap.size + 1 + 1, 0, none⟩ (.bool (ngB (zi (!(b == b2)) (N * M))))).setCell ⟨w.heap.size + 1 + 1, 1, none⟩ (.slice A2_ n2_ c2_) = v4 at *
  have q_a := x_a.al
  have q_b := x_b.al
  have q_r := x_r.al
  refine bodyPost_ret (v := .agg #[.bool (ngB (zi (!(b == b2)) (N * M))), .slice A2_ n2_ c2_]) (by simp [results, Tryz.results49, go_sem, q_r]) rfl ?_
  exact ⟨_, _, _, rfl, z1, hb⟩
end
end Go.Proofs.YtbpamkpclofnbaaGreat
namespace Go.Proofs.YtbpamkpclofnbaaGreat
section
set_option maxRecDepth 100000
open Go.RowKit
set_option linter.unusedVariables false

def TmInv (d : List Int) (by_ : Int) (k : Nat) (L : List Int) (c : Int) : Prop := L.length = k ∧ Lim Hb L ∧ 0 ≤ c ∧ c < 4294967296 ∧ vl Hb L + Hb ^ k * c.toNat = vl Hb (d.take k) * by_.toNat
theorem TmInv.step {d L : List Int} {by_ : Int} {k : Nat} {c S : Int} (h : TmInv d by_ k L c) (hd : Lim Hb d) (hb : 0 ≤ by_ ∧ by_ < 4294967296) (hS : c + d.getD k 0 * by_ = S) :
    TmInv d by_ (k + 1) (L ++ [S % 4294967296]) (S / 4294967296) ∧ 0 ≤ S ∧ S < 18446744073709551616 := by
  obtain ⟨h1, h2, h3, h3', h4⟩ := h
  have bx := dig_lt (hd.getD Hb0 k)
  have e1 := take_step (l := d) k
  generalize d.getD k 0 = x at *
  have hp := halves_mul x by_ ⟨bx.1, by omega⟩ ⟨hb.1, by omega⟩
  have hxy : (x * by_).toNat = x.toNat * by_.toNat := Int.toNat_mul bx.1 hb.1
  generalize x * by_ = p at *
  refine ⟨⟨by simp [h1], Lim_append.2 ⟨h2, fun z hz => by simp at hz; subst hz; rw [Hb_eq]; omega⟩, by omega, by omega, ?_⟩, by omega, by omega⟩
  rw [vl_append, h1, e1, Nat.pow_succ, Nat.add_mul, ← h4]
  have e3 : vl Hb [S % 4294967296] = (S % 4294967296).toNat := by simp [vl]
  have e4 : (S % 4294967296).toNat + Hb * (S / 4294967296).toNat = c.toNat + p.toNat := by rw [Hb_eq]; omega
  have e5 : Hb ^ k * ((S % 4294967296).toNat + Hb * (S / 4294967296).toNat) = Hb ^ k * (c.toNat + p.toNat) := by rw [e4]
  simp only [Nat.mul_add] at e5
  rw [e3, Nat.mul_assoc (Hb ^ k) Hb, Nat.mul_assoc (Hb ^ k) x.toNat, ← hxy]
  omega
/-- The shift downwards: the digits from j on are done. -/
def SrInv (D : List Int) (r j : Nat) (L : List Int) (y : Int) : Prop :=
  L.length = D.length ∧ Lim Hb L ∧ L.take j = D.take j ∧ vl Hb (L.drop j) = vl Hb (D.drop j) / 2 ^ r ∧ y = ((vl Hb (D.drop j) % 2 ^ r : Nat) : Int)
theorem SrInv.step {D L : List Int} {r j : Nat} {y X : Int} (hr : r ≤ 31) (hD : Lim Hb D) (h : SrInv D r (j + 1) L y) (hj : j < L.length) (hX : y * 4294967296 + L[j] = X) :
    SrInv D r j (L.set j (X / 2 ^ r)) (X % 2 ^ r) ∧ 0 ≤ y ∧ y < 4294967296 ∧ 0 ≤ X ∧ X < 18446744073709551616 := by
  obtain ⟨h1, h2, h3, h4, rfl⟩ := h
  have hjD : j < D.length := by omega
  have hLj : L[j] = D[j] := by
    have e1 : (L.take (j + 1))[j]'(by simp; omega) = L[j] := List.getElem_take
    have e2 : (D.take (j + 1))[j]'(by simp; omega) = D[j] := List.getElem_take
    rw [← e1, ← e2]; simp only [h3]
  rw [hLj] at hX
  have hx := dig_lt (hD.get hjD)
  have hq := vl_drop_step Hb D j hjD
  generalize D[j] = x at *
  generalize vl Hb (D.drop (j + 1)) = Q at *
  obtain ⟨x, rfl⟩ := Int.eq_ofNat_of_zero_le hx.1
  rw [Int.toNat_natCast] at hq
  have h2r : 2 ^ r ≤ 2 ^ 31 := Nat.pow_le_pow_right (by omega) hr
  have h31 : (2 : Nat) ^ 31 = 2147483648 := by decide
  have hrp := Nat.two_pow_pos r
  have hm := Nat.mod_lt Q hrp
  have hXn : X = ((Q % 2 ^ r * Hb + x : Nat) : Int) := by rw [Int.natCast_add, Int.natCast_mul, Hb_eq, ← hX]; rfl
  have e2 : ((2 : Int) ^ r) = ((2 ^ r : Nat) : Int) := by simp
  have hxb : Q % 2 ^ r * Hb + x < 2 ^ r * Hb := by
    have : (Q % 2 ^ r + 1) * Hb ≤ 2 ^ r * Hb := Nat.mul_le_mul_right _ hm
    rw [Nat.add_mul, Nat.one_mul] at this
    have h5 : x < Hb := by rw [Hb_eq]; omega
    omega
  rw [hXn, e2, ← Int.natCast_ediv, ← Int.natCast_emod]
  have hdq := Nat.mod_add_div Q (2 ^ r)
  have htot : x + Hb * Q = Q % 2 ^ r * Hb + x + 2 ^ r * (Hb * (Q / 2 ^ r)) := by
    have e5 : Hb * Q = Hb * (Q % 2 ^ r) + Hb * (2 ^ r * (Q / 2 ^ r)) := by rw [← Nat.mul_add, hdq]
    rw [e5, Nat.mul_comm Hb (Q % 2 ^ r), Nat.mul_left_comm Hb (2 ^ r)]
    omega
  refine ⟨⟨by simpa using h1, h2.set j ⟨Int.natCast_nonneg _, Int.ofNat_lt.2 ?_⟩, ?_, ?_, ?_⟩, Int.natCast_nonneg _, ?_, Int.natCast_nonneg _, ?_⟩
  · exact (Nat.div_lt_iff_lt_mul hrp).2 (by rw [Nat.mul_comm Hb]; exact hxb)
  · rw [List.take_set_of_le (Nat.le_refl j)]
    have := congrArg (List.take j) h3
    rw [List.take_take, List.take_take, Nat.min_eq_left (by omega)] at this
    exact this
  · rw [vl_drop_step Hb _ j (by simpa using hj), List.getElem_set_self, Int.toNat_natCast, List.drop_set_of_lt (by omega), h4, hq, htot, Nat.add_mul_div_left _ _ hrp]
  · rw [hq, htot, Nat.add_mul_mod_self_left]
  · have : Q % 2 ^ r < 4294967296 := by omega
    omega
  · have : 2 ^ r * Hb ≤ 2147483648 * Hb := Nat.mul_le_mul_right _ (by omega)
    have h8 : 2147483648 * Hb = 9223372036854775808 := by rw [Hb_eq]
    rw [h8] at this
    generalize Q % 2 ^ r * Hb + x = z at *
    omega
end
end Go.Proofs.YtbpamkpclofnbaaGreat
namespace Go.Proofs.YtbpamkpclofnbaaGreat
section
set_option maxRecDepth 100000
open Go.RowKit
set_option linter.unusedVariables false

theorem Ow.set {w : World} {base g m cap : Nat} {l : List Int} (h : Ow w base (.slice (some ⟨g, 0, none⟩) m cap) l) (hm : l.length = m) (j : Nat) (x : Int) :
    Ow (w.setCell ⟨g, j, none⟩ (.int .u64 x)) base (.slice (some ⟨g, 0, none⟩) m cap) (l.set j x) ∧ Below base w (w.setCell ⟨g, j, none⟩ (.int .u64 x)) := by
  subst hm
  have h1 := World.ownsRow.stored h j (.int .u64 x)
  have hb := (World.ownsRow.lt h g rfl).1
  refine ⟨?_, (Below.refl _ _).setCell hb _⟩
  unfold Ow
  rw [List.length_set, List.map_set]
  exact h1.1
theorem Ow.cell {w : World} {base g m cap : Nat} {l : List Int} (h : Ow w base (.slice (some ⟨g, 0, none⟩) m cap) l) (hm : l.length = m) {j : Nat} (hj : j < l.length) : w.cell? ⟨g, j, none⟩ = some (.int .u64 l[j]) ∧ w.frozen? ⟨g, j, none⟩ = false := by
  subst hm
  refine ⟨?_, World.ownsRow.frozenAt h j⟩
  rw [World.ownsRow.cellAt h j (by omega)]
  simp [hj]
end
end Go.Proofs.YtbpamkpclofnbaaGreat
namespace Go.Proofs.YtbpamkpclofnbaaGreat
section
set_option maxRecDepth 100000
open Go.RowKit
set_option linter.unusedVariables false

theorem sgnI_m {X : Int} (h : X < 0) : sgnI X = -1 := by unfold sgnI; rw [if_pos h]
theorem sgnI_z {X : Int} (h : X = 0) : sgnI X = 0 := by unfold sgnI; rw [if_neg (by omega), if_pos h]
theorem sgnI_p {X : Int} (h : 0 < X) : sgnI X = 1 := by unfold sgnI; rw [if_neg (by omega), if_neg (by omega)]
theorem ngB_pos {X : Int} (h : 0 < X) : ngB X = false := by unfold ngB; simp; omega
theorem ngB_neg {X : Int} (h : X < 0) : ngB X = true := by unfold ngB; simpa using h
theorem zn_len {w : World} {A : Option Addr} {n c k : Nat} {X : Int} (h : Zn w A n c X k) : (X = 0 → n = 0) ∧ (X ≠ 0 → 0 < n) :=
  ⟨fun h0 => rd_zero h.1 (by omega), fun h0 => rd_pos h.1 (by omega)⟩

set_option maxRecDepth 100000 in
set_option maxHeartbeats 2000000 in
theorem RSignZ_any {b : Bool} {A : Option Addr} {n c : Nat} {X : Int} {j : Nat} {w : World} (h : Zr w b A n c X j) (hj : j ≤ 100000) :
    Calls Tryz.prog 52 #[.agg #[.bool b, .slice A n c]] w fun e w' => e = .returned (.int .i64 (sgnI X)) ∧ Below w.heap.size w w' := by
  rcases Int.lt_trichotomy X 0 with h0 | h0 | h0
  · have hv := sgnI_m h0
    have HV := Lib.hid hv; clear hv
    have hnb : ngB X = true := ngB_neg h0
    have HNB := Lib.hid hnb; clear hnb
    go_enter Tryz.func52, Tryz.ntmps52
    go_wp2_with fail
    obtain ⟨hb, x_a⟩ := box1 w b A n c
    generalize w.alloc (.cells #[.bool b, .slice A n c] 30) = v1 at *
    replace h := h.keep hb
    have q_a := x_a.al
    go_wp2_with fail
    with_reducible refine (RNormZ_any h j (Nat.le_refl _) (by omega)).mono ?_
    rintro e v2 ⟨A1, n1, c1, rfl, z1, hb1⟩
    obtain ⟨x_a, h⟩ := mv2 hb1 x_a h
    replace hb := bthen hb hb1
    clear hb1
    replace q_a := x_a.al
    have hl := zn_len z1
    rw [HNB.out]
    have hp := hl.2 (by omega)
    have hp0 : ((n1 : Int) == 0) = false := by simp; omega
    clear hl h0
    go_wp2
    go_ret
    exact ⟨ret_i64 HV.out.symm, put_below hb (by omega) _ _⟩
  · have hv := sgnI_z h0
    have HV := Lib.hid hv; clear hv
    have hnb : ngB X = false := by subst h0; rfl
    have HNB := Lib.hid hnb; clear hnb
    go_enter Tryz.func52, Tryz.ntmps52
    go_wp2_with fail
    obtain ⟨hb, x_a⟩ := box1 w b A n c
    generalize w.alloc (.cells #[.bool b, .slice A n c] 30) = v1 at *
    replace h := h.keep hb
    have q_a := x_a.al
    go_wp2_with fail
    with_reducible refine (RNormZ_any h j (Nat.le_refl _) (by omega)).mono ?_
    rintro e v2 ⟨A1, n1, c1, rfl, z1, hb1⟩
    obtain ⟨x_a, h⟩ := mv2 hb1 x_a h
    replace hb := bthen hb hb1
    clear hb1
    replace q_a := x_a.al
    have hl := zn_len z1
    rw [HNB.out]
    obtain rfl := hl.1 h0
    clear hl h0
    go_wp2
    go_ret
    exact ⟨ret_i64 HV.out.symm, put_below hb (by omega) _ _⟩
  · have hv := sgnI_p h0
    have HV := Lib.hid hv; clear hv
    have hnb : ngB X = false := ngB_pos h0
    have HNB := Lib.hid hnb; clear hnb
    go_enter Tryz.func52, Tryz.ntmps52
    go_wp2_with fail
    obtain ⟨hb, x_a⟩ := box1 w b A n c
    generalize w.alloc (.cells #[.bool b, .slice A n c] 30) = v1 at *
    replace h := h.keep hb
    have q_a := x_a.al
    go_wp2_with fail
    with_reducible refine (RNormZ_any h j (Nat.le_refl _) (by omega)).mono ?_
    rintro e v2 ⟨A1, n1, c1, rfl, z1, hb1⟩
    obtain ⟨x_a, h⟩ := mv2 hb1 x_a h
    replace hb := bthen hb hb1
    clear hb1
    replace q_a := x_a.al
    have hl := zn_len z1
    rw [HNB.out]
    have hp := hl.2 (by omega)
    have hp0 : ((n1 : Int) == 0) = false := by simp; omega
    clear hl h0
    go_wp2
    go_ret
    exact ⟨ret_i64 HV.out.symm, put_below hb (by omega) _ _⟩

end
end Go.Proofs.YtbpamkpclofnbaaGreat
