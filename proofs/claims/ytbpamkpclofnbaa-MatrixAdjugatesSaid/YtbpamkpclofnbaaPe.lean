/-
  The document's answer for zed: Sign, Cmp, Same, BitLen, Shl, Shr.
-/
import Derived.Test.YtbpamkpclofnbaaPb
import Derived.Deep.AppendLies
import Derived.Test.YtbpamkpclofnbaaPc
namespace Go.Proofs.Ytbpamkpclofnbaa
section
set_option maxRecDepth 100000
open Go.RowKit
set_option linter.unusedVariables false

def Hb : Nat := 4294967296
theorem Hb_eq : Hb = 4294967296 := rfl
theorem Hb2 : 2 ≤ Hb := by decide
theorem Hb0 : 0 < Hb := Nat.lt_of_lt_of_le (by omega) Hb2
theorem Hb_sq : Hb * Hb = Wd := by decide
theorem Hb_pow (k : Nat) : Hb ^ (2 * k) = Wd ^ k := by rw [Nat.pow_mul, show Hb ^ 2 = Wd by rw [Nat.pow_two]; exact Hb_sq]
theorem Lim_Wd {l : List Int} (h : Lim Hb l) : Lim Wd l := fun x hx => by
  have := h x hx
  rw [Hb_eq] at this
  rw [Wd_eq]; omega
theorem dig_lt {x : Int} (h : 0 ≤ x ∧ x < (Hb : Int)) : 0 ≤ x ∧ x < 4294967296 := by rw [Hb_eq] at h; omega

/-- What a function of digits hands back. -/
def OutH (w : World) (N : Nat) (e : Ending) (w' : World) : Prop := ∃ A n c, e = .returned (.slice A n c) ∧ Rd w' w'.heap.size A n c (dg Hb N) ∧ Below w.heap.size w w'

theorem Rd.trimmedB {b : Nat} (hb : 2 ≤ b) {w : World} {B n c : Nat} {A : Option Addr} {l : List Int} (h : Rd w B A n c l) (hl : Lim b l) {k : Nat} (hk : k ≤ n) (hz : ∀ j (hj : j < l.length), k ≤ j → l[j] = 0)
    (ht : ∀ hh : 0 < k, ∃ hj : k - 1 < l.length, l[k - 1] ≠ 0) : Rd w B A k c (dg b (vl b l)) := by
  rw [dg_take hb hl (by have := h.len; omega) hz (fun hh => (ht hh).2)]
  exact h.take hk

set_option maxHeartbeats 400000 in
theorem Trim_any (A : Option Addr) (n c : Nat) (l : List Int) (w : World) (B : Nat) (h : Rd w B A n c l) (hl : Lim Hb l) :
    Calls Try.prog 83 #[.slice A n c] w fun e w' => ∃ n', e = .returned (.slice A n' c) ∧ n' ≤ n ∧ Rd w B A n' c (dg Hb (vl Hb l)) ∧ w = w' := by
  have hcap := h.cap
  have hbig := h.big
  have H := Lib.hid h.len
  go_enter Try.func83, Try.ntmps83
  go_wp2
  go_loop [3] (fun i => ∃ k : Nat, k ≤ n ∧ i = .int .i64 k ∧ Hid (∀ j (hj : j < l.length), k ≤ j → l[j] = 0)) (fun i => (intOf i).toNat)
  case atStart => exact ⟨n, Nat.le_refl _, rfl, fun j hj hk => by have := H.out; omega⟩
  case round =>
    obtain ⟨k, hk, rfl, hz⟩ := hrel
    rcases k with _ | k
    · go_wp2
      all_goals go_ret
      all_goals exact ⟨_, rfl, Nat.zero_le _, h.trimmedB Hb2 hl (k := 0) (by omega) hz.out (fun hh => absurd hh (by omega)), rfl⟩
    · obtain ⟨b, off, rfl, hb, hc⟩ := h.at_ (by omega)
      have hkl : k < l.length := by have := H.out; omega
      have hck := hc k hkl
      clear hc
      generalize hx : l[k] = x at hck
      have Hx := Lib.hid hx; clear hx
      have hkc : k + 1 ≤ c := by omega
      go_wp2
      · have h0 : (x == 0) = true := by assumption
        have h1 : l[k] = 0 := Hx.out.trans (by simpa using h0)
        go_round
        case rel => exact ⟨k, by omega, rfl, trim_zeros H.out hz.out hkl h1⟩
        case measure => simp [intOf]
      · have h0 : (x == 0) = false := by assumption
        have h1 : l[k] ≠ 0 := fun e => by rw [Hx.out] at e; simp [e] at h0
        go_ret
        exact ⟨_, rfl, by omega, h.trimmedB Hb2 hl (k := k + 1) (by omega) hz.out (fun _ => ⟨hkl, h1⟩), rfl⟩

/-- Two digits a limb. -/
def DgInv (T : Nat) (l : List Int) (k : Nat) (L : List Int) : Prop := L.length = T ∧ Lim Hb L ∧ vl Hb (L.take (2 * k)) = vl Wd (l.take k)
theorem DgInv.step {T : Nat} {l L : List Int} {k : Nat} (h : DgInv T l k L) (hl : Lim Wd l) (hk : k < l.length) (hT : 2 * k + 1 < L.length) :
    DgInv T l (k + 1) ((L.set (2 * k) (l[k] % 4294967296)).set (2 * k + 1) (l[k] / 4294967296)) := by
  obtain ⟨h1, h2, h3⟩ := h
  have hx := hl.get hk
  have hs := vl_take_succ Wd l k hk
  generalize l[k] = x at *
  have b0 : 0 ≤ x % 4294967296 ∧ x % 4294967296 < (Hb : Int) := by rw [Hb_eq]; omega
  have b1 : 0 ≤ x / 4294967296 ∧ x / 4294967296 < (Hb : Int) := by rw [Wd_eq] at hx; rw [Hb_eq]; omega
  refine ⟨by simpa using h1, (h2.set _ b0).set _ b1, ?_⟩
  have e1 := vl_take_succ Hb ((L.set (2 * k) (x % 4294967296)).set (2 * k + 1) (x / 4294967296)) (2 * k + 1) (by simpa using hT)
  have e2 := vl_take_succ Hb ((L.set (2 * k) (x % 4294967296)).set (2 * k + 1) (x / 4294967296)) (2 * k) (by simp; omega)
  rw [List.getElem_set_self] at e1
  have t1 : ((L.set (2 * k) (x % 4294967296)).set (2 * k + 1) (x / 4294967296)).take (2 * k) = L.take (2 * k) := by
    rw [List.take_set_of_le (by omega), List.take_set_of_le (Nat.le_refl _)]
  rw [t1, List.getElem_set_ne (by omega), List.getElem_set_self] at e2
  rw [show 2 * (k + 1) = 2 * k + 1 + 1 by omega, e1, e2, h3, hs, Nat.pow_succ, Hb_pow]
  have e3 : (x % 4294967296).toNat + Hb * (x / 4294967296).toNat = x.toNat := by rw [Hb_eq]; omega
  rw [Nat.mul_assoc, ← e3, Nat.mul_add]
  omega
theorem div32 {x : Int} (hx : Lm x) : x.tmod 4294967296 = x % 4294967296 ∧ IntKind.u64.wrap (x.tdiv 4294967296) = x / 4294967296 := by
  refine ⟨Int.tmod_eq_emod_of_nonneg hx.1, ?_⟩
  unfold Lm at hx
  rw [Wd_eq] at hx
  rw [Int.tdiv_eq_ediv_of_nonneg hx.1, wrap_u64]
  omega
def DgRel (w : World) (g T : Nat) (l : List Int) (k : Nat) (wr : World) : Prop := ∃ L, DgInv T l k L ∧ Bk wr g L ∧ Below w.heap.size w wr

set_option maxHeartbeats 1000000 in
theorem Digits_any (A : Option Addr) (n c : Nat) (l : List Int) (w : World) (h : Rd w w.heap.size A n c l) (hn : n ≤ 1099511627776) :
    Calls Try.prog 62 #[.slice A n c] w (OutH w (vl Wd l)) := by
  have H := Lib.hid h.len
  obtain ⟨T, hT⟩ : ∃ T, T = 2 * n := ⟨_, rfl⟩
  have eT : 2 * (n : Int) = T := by omega
  have hTb : T ≤ 2199023255552 := by omega
  have HT := Lib.hid hT; clear hT
  go_enter Try.func62, Try.ntmps62
  go_wp2_with (at_make; refine wp_make64 rfl _ _ rfl T _ _ rfl rfl (by omega) (by omega) (by omega) ?_; intro w1 hbk1 hb1)
  go_loopw [4] (fun i wr => ∃ k : Nat, k ≤ n ∧ i = .int .i64 k ∧ DgRel w w.heap.size T l k wr) (fun i _ => n - (intOf i).toNat)
  case atStart => exact ⟨0, Nat.zero_le _, rfl, _, ⟨by simp, Lim_replicate Hb0 _, by simp [vl]⟩, hbk1, hb1⟩
  case round =>
    obtain ⟨k, hk, rfl, L, k1, k2, k3⟩ := hrel
    clear hbk1 hb1
    by_cases hkn : k < n
    · obtain ⟨b, of, rfl, hb, hc⟩ := (h.below k3).at_ (by omega)
      have hkl : k < l.length := by have := H.out; omega
      have hLT := k1.1
      have hk1 : 2 * k + 1 < L.length := by have := HT.out; omega
      have hcx := hc k hkl
      have hx : 0 ≤ l[k] := (h.lim.get hkl).1
      have hst := k1.step h.lim hkl hk1
      have c0 := k2.cell (2 * k) (by omega)
      have f0 := k2.frozen (2 * k)
      have c1 := k2.cell (2 * k + 1) (by omega)
      have f1 := k2.frozen (2 * k + 1)
      have s1 := (k2.set (2 * k) (l[k] % 4294967296)).set (2 * k + 1) (l[k] / 4294967296)
      have b3 := (k3.setCell (p := ⟨w.heap.size, 2 * k, none⟩) (Nat.le_refl _) (.int .u64 (l[k] % 4294967296))).setCell (p := ⟨w.heap.size, 2 * k + 1, none⟩) (Nat.le_refl _) (.int .u64 (l[k] / 4294967296))
      have hxl : Lm l[k] := h.lim.get hkl
      clear hc
      generalize l[k] = x at *
      generalize L[2 * k]'(by omega) = z0 at c0
      generalize L[2 * k + 1]'hk1 = z1 at c1
      have R : DgRel w w.heap.size T l (k + 1) ((wr.setCell ⟨w.heap.size, 2 * k, none⟩ (.int .u64 (x % 4294967296))).setCell ⟨w.heap.size, 2 * k + 1, none⟩ (.int .u64 (x / 4294967296))) := ⟨_, hst, s1, b3⟩
      obtain ⟨e1, e2⟩ := div32 hxl
      obtain ⟨x0, hx0⟩ : ∃ x0, x % 4294967296 = x0 := ⟨_, rfl⟩
      obtain ⟨x1, hx1⟩ : ∃ x1, x / 4294967296 = x1 := ⟨_, rfl⟩
      rw [hx0] at e1 R
      rw [hx1] at e2 R
      have hcx3 : (wr.setCell ⟨w.heap.size, 2 * k, none⟩ (.int .u64 x0)).cell? ⟨b, of + k, none⟩ = _ := (World.cell?_setCell_other wr ⟨w.heap.size, 2 * k, none⟩ ⟨b, of + k, none⟩ _ (fun e => by injection e with e; omega)).trans hcx
      obtain ⟨u, hu⟩ : ∃ u, u = 2 * k := ⟨_, rfl⟩
      have hu2 : 2 * (k : Int) = u := by omega
      have huT : (u : Int) + 1 < T := by have := HT.out; omega
      rw [← hu] at c0 f0 c1 f1 R hcx3
      have HU := Lib.hid hu
      clear hst s1 b3 hu hk1 hLT k2 k3 hxl
      go_wp2
      go_roundw
      case rel => exact ⟨k + 1, by omega, by go_num, R⟩
      case measure => simp [intOf]; omega
    · obtain rfl : n = k := by omega
      obtain ⟨i1, i2, i3⟩ := k1
      rw [List.take_of_length_le (by have := HT.out; omega), List.take_of_length_le (by have := H.out; omega)] at i3
      have hw3 := k2.whole (B := wr.heap.size) (n := T) (c := T) k2.lt i1 (Nat.le_refl _) (by omega) (Lim_Wd i2)
      have H3 := Lib.hid i3
      clear i1 i3
      go_wp2_with fail
      refine (Trim_any _ _ _ _ _ _ hw3 i2).mono ?_
      rintro e w' ⟨n5, rfl, _, hrd5, rfl⟩
      rw [H3.out] at hrd5
      go_wp2
      go_ret
      exact ⟨_, _, _, rfl, hrd5, k3⟩
end
end Go.Proofs.Ytbpamkpclofnbaa
namespace Go.Proofs.Ytbpamkpclofnbaa
section
set_option maxRecDepth 100000
open Go.RowKit
set_option linter.unusedVariables false

/-- A slice that the call itself has made, of limbs. -/
def Ow (w : World) (base : Nat) (v : Value) (l : List Int) : Prop := w.ownsRow base 59 1 v l.length (l.map (Value.int .u64))
theorem Ow.nil (w : World) (base : Nat) : Ow w base (.slice none 0 0) [] := World.ownsRow_nil _ _ _ _
theorem Ow.alloc {w : World} {base : Nat} {v : Value} {l : List Int} (h : Ow w base v l) (o : Obj) : Ow (w.alloc o) base v l := World.ownsRow.alloc h o
theorem Ow.slice {w : World} {base : Nat} {v : Value} {l : List Int} (h : Ow w base v l) : ∃ A c, v = .slice A l.length c ∧ l.length ≤ c := by
  rcases h.2 with ⟨h1, h2⟩ | ⟨g, cap, cur, hv, _, _, hnc, _⟩
  · exact ⟨none, 0, by rw [h2]; exact h1, by omega⟩
  · exact ⟨_, _, hv, hnc⟩
theorem Ow.rd {w : World} {base : Nat} {v : Value} {l : List Int} (h : Ow w base v l) (hl : Lim Wd l) (hn : l.length ≤ 17592186044416) : ∃ A n c, v = .slice A n c ∧ Rd w w.heap.size A n c l := by
  rcases h.2 with ⟨h1, h2⟩ | ⟨g, cap, cur, hv, hbg, hh, hnc, _⟩
  · have : l = [] := List.eq_nil_of_length_eq_zero h2
    subst this
    exact ⟨_, _, _, h1, Rd.nil⟩
  · refine ⟨_, _, _, hv, rfl, hnc, hn, hl, fun _ => ⟨g, 0, rfl, (Array.getElem?_eq_some_iff.1 hh).1, fun k hk => ?_⟩⟩
    have hc := World.ownsRow.cells h (g := g) (by rw [hv]; rfl) k (.int .u64 l[k]) (by simp [hk])
    rw [← hc]
    unfold Addr.add
    by_cases h0 : k = 0
    · subst h0; simp
    · rw [if_neg h0]

theorem wp_push64 {W : World} {ops : Array Oper} {rest : List Oper} {o : Oper} {a : Act} {Q : Exit → Act → World → Prop} (hg : o.guard = none) (s x : Operand)
    (hop : o.op = .call { callee := .builtin .append, args := #[s, x], argTypes := #[30, 30] }) (base : Nat) (v : Value) (l : List Int) (hs : a.eval s = v) (hown : Ow W base v l)
    (g0 : Nat) (y : Int) (hx : a.eval x = .slice (some ⟨g0, 0, none⟩) 1 1) (hc : W.cell? ⟨g0, 0, none⟩ = some (.int .u64 y)) (hlen : l.length ≤ 8796093022208) (hbase : base ≤ W.heap.size)
    (hK : ∀ v' w', Ow w' base v' (l ++ [y]) → Below base W w' → wpList Try.prog ops Q rest (a.put o.dst v') w') : wpList Try.prog ops Q (o :: rest) a W := by
  obtain ⟨i0, hi, hz0, hz1, hz2⟩ := info_parts Try.info64
  refine wpList_append_own W hg s x 30 hop base 59 i0 (.int .u64 0) 1 8 Try.underlying30 hi hz0 hz1 hz2 rfl (by decide) v _ _ hs hown ⟨g0, 0, none⟩ 1 1 [.int .u64 y] hx rfl ?_ ?_ (by unfold maxLen; omega) (by omega) hbase ?_
  · intro j u hj
    match j, hj with
    | 0, hj => simp at hj; subst hj; simpa [Addr.add] using hc
  · intro u hu; simp at hu; subst hu; rfl
  · intro v' w' h1 h2 _
    refine hK v' w' ?_ ⟨h2.os, h2.tape, h2.output, h2.size, fun k hk => h2.block k (by omega) (fun e => by have := (World.ownsRow.lt hown k e.symm).1; omega)⟩
    unfold Ow
    simpa using h1

theorem dg_of_len {b : Nat} (hb : 2 ≤ b) {l : List Int} {N : Nat} (hl : Lim b l) (hv : vl b l = N) (ht : 0 < l.length → b ^ (l.length - 1) ≤ N) : l = dg b N := by
  subst hv
  symm
  refine dg_of hb hl fun x hx h0 => ?_
  subst h0
  rw [List.getLast?_eq_getElem?] at hx
  have hpos : 0 < l.length := by
    rcases Nat.eq_zero_or_pos l.length with h | h
    · have : l = [] := List.eq_nil_of_length_eq_zero h
      subst this; simp at hx
    · exact h
  have hlt : l.length - 1 < l.length := by omega
  rw [List.getElem?_eq_getElem hlt] at hx
  injection hx with hx
  have h1 := vl_split b l (l.length - 1) (by omega)
  rw [vl_drop_step b l _ hlt, hx, List.drop_eq_nil_of_le (by omega)] at h1
  have h2 := vl_lt (hl.take (l.length - 1))
  rw [List.length_take, Nat.min_eq_left (by omega)] at h2
  have h3 := ht hpos
  have e : b ^ (l.length - 1) * ((0 : Int).toNat + b * vl b []) = 0 := by simp [vl]
  omega

theorem Hb_le {m k : Nat} (h : m ≤ 2 * k) : Hb ^ m ≤ Wd ^ k := by rw [← Hb_pow]; exact Nat.pow_le_pow_right Hb0 h
theorem Rd.smallH {w : World} {B n c k N : Nat} {A : Option Addr} (h : Rd w B A n c (dg Hb N)) (hN : Sm N k) : n ≤ 2 * k := by
  rw [← h.len]
  refine dg_len_le Hb2 ?_
  rw [Hb_pow]; exact hN
/-- Limbs under way: i digits are in. -/
def LbInv (d : List Int) (i : Nat) (l : List Int) : Prop := Lim Wd l ∧ vl Wd l = vl Hb (d.take i) ∧ 2 * l.length = i
theorem LbInv.two {d l : List Int} {i : Nat} (h : LbInv d i l) (hd : Lim Hb d) (h1 : i + 1 < d.length) : LbInv d (i + 2) (l ++ [d[i] + 4294967296 * d[i + 1]]) := by
  obtain ⟨k1, k2, k3⟩ := h
  have b0 := dig_lt (hd.get (show i < d.length by omega))
  have b1 := dig_lt (hd.get h1)
  have e1 := vl_take_succ Hb d i (by omega)
  have e2 := vl_take_succ Hb d (i + 1) h1
  generalize d[i] = x at *
  generalize d[i + 1] = y at *
  refine ⟨Lim_append.2 ⟨k1, fun z hz => ?_⟩, ?_, by simp; omega⟩
  · simp at hz; subst hz; rw [Wd_eq]; omega
  · rw [vl_append, vl_one, k2, show i + 2 = i + 1 + 1 by omega, e2, e1, ← Hb_pow, k3, Nat.pow_succ]
    have e3 : (x + 4294967296 * y).toNat = x.toNat + Hb * y.toNat := by rw [Hb_eq]; omega
    rw [e3, Nat.mul_add, Nat.mul_assoc]
    omega
theorem LbInv.one {d l : List Int} {i : Nat} (h : LbInv d i l) (hd : Lim Hb d) (h1 : i + 1 = d.length) : Lim Wd (l ++ [d[i]]) ∧ vl Wd (l ++ [d[i]]) = vl Hb d ∧ 2 * (l ++ [d[i]]).length = d.length + 1 := by
  obtain ⟨k1, k2, k3⟩ := h
  have hi : i < d.length := by omega
  have b0 := dig_lt (hd.get hi)
  have e1 := vl_take_succ Hb d i hi
  rw [List.take_of_length_le (by omega)] at e1
  refine ⟨Lim_append.2 ⟨k1, fun z hz => ?_⟩, ?_, by simp; omega⟩
  · simp at hz; subst hz; rw [Wd_eq]; omega
  · rw [vl_append, vl_one, k2, e1, ← Hb_pow, k3]
theorem limbs_end {N : Nat} {l : List Int} (hl : Lim Wd l) (hv : vl Wd l = N) (hn : 2 * l.length ≤ (dg Hb N).length + 1) : l = dg Wd N := by
  refine dg_of_len Wd2 hl hv fun hp => ?_
  have h1 := dg_len_ge Hb2 (n := N) (by omega)
  rw [← Hb_pow]
  exact Nat.le_trans (Nat.pow_le_pow_right Hb0 (by omega)) h1
def LbRel (w : World) (d : List Int) (ov : Value) (i : Nat) (wr : World) : Prop := ∃ l, LbInv d i l ∧ Ow wr w.heap.size ov l ∧ Below w.heap.size w wr
def LbEnd (w : World) (N : Nat) (ov : Value) (wr : World) : Prop := Ow wr w.heap.size ov (dg Wd N) ∧ Below w.heap.size w wr

set_option maxHeartbeats 2000000 in
theorem Limbs_any (A : Option Addr) (n c : Nat) (l0 : List Int) (w : World) (h : Rd w w.heap.size A n c l0) (hl0 : Lim Hb l0) (hn : n ≤ 1099511627776) :
    Calls Try.prog 60 #[.slice A n c] w (Out w (vl Hb l0)) := by
  generalize hN : vl Hb l0 = N at *
  have HN := Lib.hid hN; clear hN
  go_enter Try.func60, Try.ntmps60
  go_wp2_with fail
  refine (Trim_any _ _ _ _ _ _ h hl0).mono ?_
  rintro e w' ⟨m, rfl, hmn, hrd, rfl⟩
  rw [HN.out] at hrd
  have hd := Lim_dg Hb2 N
  have H := Lib.hid hrd.len
  have hv := vl_dg Hb2 N
  have HV := Lib.hid hv; clear hv
  have hlast : ∀ l, LbInv (dg Hb N) m l → l = dg Wd N := fun l hi => by
    obtain ⟨i1, i2, i3⟩ := hi
    rw [List.take_of_length_le (Nat.le_of_eq H.out), HV.out] at i2
    exact limbs_end i1 i2 (by have := H.out; omega)
  have hlast1 : ∀ l i (hi : i < (dg Hb N).length), i + 1 = m → LbInv (dg Hb N) i l → l ++ [(dg Hb N)[i]] = dg Wd N := fun l i hi hm h => by
    obtain ⟨i1, i2, i3⟩ := h.one hd (by have := H.out; omega)
    rw [HV.out] at i2
    exact limbs_end i1 i2 (Nat.le_of_eq i3)
  have H1 := Lib.hid hlast; have H2 := Lib.hid hlast1
  clear hlast hlast1 h hl0
  generalize hD : dg Hb N = D at *
  have HD := Lib.hid hD; clear hD
  go_wp2_with fail
  go_loopw [3, 4, 5] (fun ov iv _ wr => ∃ i : Nat, iv = .int .i64 i ∧ i ≤ m + 1 ∧ (i ≤ m → LbRel w D ov i wr) ∧ (m ≤ i → LbEnd w N ov wr)) (fun _ iv _ _ => m + 1 - (intOf iv).toNat)
  case atStart =>
    refine ⟨0, rfl, by omega, fun _ => ⟨[], ⟨Lim_nil _, by simp [vl], rfl⟩, Ow.nil _ _, Below.refl _ _⟩, fun h => ⟨?_, Below.refl _ _⟩⟩
    have h0 : m = 0 := by omega
    have hli : LbInv D m [] := ⟨Lim_nil _, by rw [h0]; simp [vl], by simp; omega⟩
    have : ([] : List Int) = dg Wd N := H1.out [] hli
    rw [← this]; exact Ow.nil _ _
  case round =>
    obtain ⟨i, rfl, him, hrl, hend⟩ := hrel
    by_cases hi : i < m
    · obtain ⟨l, k1, k2, k3⟩ := hrl (by omega)
      clear hrl hend
      obtain ⟨b, of, rfl, hb, hc⟩ := (hrd.below k3).at_ (by omega)
      have hil : i < D.length := by have := H.out; omega
      have c0 := hc i hil
      have b0 := dig_lt (hd.get hil)
      obtain ⟨Ao, co, rfl, hlc⟩ := k2.slice
      have hll := k1.2.2
      by_cases hi2 : i + 1 < m
      · have hil2 : i + 1 < D.length := by have := H.out; omega
        have c1 := hc (i + 1) hil2
        have b1 := dig_lt (hd.get hil2)
        have hst := k1.two hd hil2
        have hfin : i + 2 = m → l ++ [D[i] + 4294967296 * D[i + 1]] = dg Wd N := fun e => H1.out _ (e ▸ hst)
        clear hc
        generalize D[i] = x0 at *
        generalize D[i + 1] = x1 at *
        have hx0 := b0.1; have hx0' := b0.2; have hx1 := b1.1; have hx1' := b1.2
        obtain ⟨y, hy⟩ : ∃ y, x0 + 4294967296 * x1 = y := ⟨_, rfl⟩
        rw [hy] at hst hfin
        have HST := Lib.hid hst; have HF := Lib.hid hfin; have HLL := Lib.hid hll
        clear hst hfin hll b0 b1 k1
        go_wp2_with (at_builtin; refine wp_push64 rfl _ _ rfl w.heap.size _ l rfl (k2.alloc _) wr.heap.size y rfl (by simp) (by have := HLL.out; omega) (by have := k3.size; simp; omega) ?_; intro v' w1 ho1 hb1)
        obtain ⟨A1, cc1, rfl, _⟩ := ho1.slice
        have hbb := (k3.alloc k3.size _).trans hb1
        go_wp2
        go_roundw
        case rel => exact ⟨i + 2, by go_num, by omega, fun _ => ⟨_, HST.out, ho1, hbb⟩, fun hm => ⟨by rw [HF.out (by omega)] at ho1 ⊢; exact ho1, hbb⟩⟩
        case measure => simp [intOf]; omega
      · have hfin := H2.out l i hil (by omega) k1
        clear hc
        generalize D[i] = x0 at *
        have hx0 := b0.1; have hx0' := b0.2
        have HF := Lib.hid hfin; have HLL := Lib.hid hll
        clear hfin hll b0 k1
        go_wp2_with (at_builtin; refine wp_push64 rfl _ _ rfl w.heap.size _ l rfl (k2.alloc _) wr.heap.size x0 rfl (by simp) (by have := HLL.out; omega) (by have := k3.size; simp; omega) ?_; intro v' w1 ho1 hb1)
        obtain ⟨A1, cc1, rfl, _⟩ := ho1.slice
        have hbb := (k3.alloc k3.size _).trans hb1
        go_wp2
        go_roundw
        case rel => exact ⟨i + 2, by go_num, by omega, fun h => absurd h (by omega), fun hm => ⟨by rw [HF.out] at ho1 ⊢; exact ho1, hbb⟩⟩
        case measure => simp [intOf]; omega
    · obtain ⟨k2, k3⟩ := hend (by omega)
      have hlen : (dg Wd N).length ≤ 17592186044416 := by
        refine Nat.le_trans (dg_len_le Wd2 (k := m) ?_) (by omega)
        have h5 : N < Hb ^ m := by have := dg_lt Hb2 (Nat.le_of_eq (HD.out ▸ H.out)); exact this
        exact Nat.lt_of_lt_of_le h5 (Hb_le (by omega))
      obtain ⟨A5, n5, c5, rfl, hrd5⟩ := k2.rd (Lim_dg Wd2 _) hlen
      go_wp2
      go_ret
      exact ⟨_, _, _, rfl, hrd5, k3⟩

set_option maxHeartbeats 400000 in
theorem RNorm_any (A : Option Addr) (n c : Nat) (l : List Int) (w : World) (h : Rd w w.heap.size A n c l) (hn : n ≤ 549755813888) :
    Calls Try.prog 59 #[.slice A n c] w (Out w (vl Wd l)) := by
  have hN : Sm (vl Wd l) 549755813888 := Sm.of h hn
  go_enter Try.func59, Try.ntmps59
  go_wp2_with fail
  refine (Digits_any _ _ _ _ _ h (by omega)).mono ?_
  rintro e w1 ⟨A1, n1, c1, rfl, g1, hb1⟩
  have hz := g1.smallH hN
  go_wp2_with fail
  refine (Limbs_any _ _ _ _ _ g1 (Lim_dg Hb2 _) (by omega)).mono ?_
  rintro e w2 ⟨A2, n2, c2, rfl, g2, hb2⟩
  rw [vl_dg Hb2] at g2
  have hb := hb1.trans (hb2.mono hb1.size)
  go_wp2
  go_ret
  exact ⟨_, _, _, rfl, g2, hb⟩

end
end Go.Proofs.Ytbpamkpclofnbaa
namespace Go.Proofs.Ytbpamkpclofnbaa
section
set_option maxRecDepth 100000
open Go.RowKit
set_option linter.unusedVariables false

end
end Go.Proofs.Ytbpamkpclofnbaa
namespace Go.Proofs.Ytbpamkpclofnbaa
section
set_option maxRecDepth 100000
open Go.RowKit
set_option linter.unusedVariables false

end
end Go.Proofs.Ytbpamkpclofnbaa
namespace Go.Proofs.Ytbpamkpclofnbaa
section
set_option maxRecDepth 100000
open Go.RowKit
set_option linter.unusedVariables false

theorem ZOut.mk {w w' : World} {b b' : Bool} {A : Option Addr} {n c N k : Nat} (h : Rd w' w'.heap.size A n c (dg Wd N)) (hs : Sm N k) (he : b' = ngB (zi b N)) (hb : Below w.heap.size w w') : OutZ w (zi b N) k (.returned (.agg #[.bool b', .slice A n c])) w' :=
  ⟨A, n, c, by rw [he], ⟨by rw [zi_abs]; exact h, h.small hs⟩, hb⟩
set_option maxRecDepth 100000 in
set_option maxHeartbeats 2000000 in
theorem RMake_any {b : Bool} {A : Option Addr} {n c : Nat} {l : List Int} {w : World} (h : Rd w w.heap.size A n c l) (N k : Nat) (hN : vl Wd l = N) (hs : Sm N k) (hn : n ≤ 1000000) :
    Calls Try.prog 33 #[.bool b, .slice A n c] w (OutZ w (zi b N) k) := by
  have HN := Lib.hid hN; clear hN
  cases b
  · skip
    go_enter Try.func33, Try.ntmps33
    go_wp2_with fail
    obtain ⟨hb, x_r⟩ := box1 w false none 0 0
    generalize w.alloc (.cells #[.bool false, .slice none 0 0] 32) = v1 at *
    replace h := h.go hb
    have q_r := x_r.al
    go_wp2_with fail
    with_reducible refine (RNorm_any _ _ _ _ _ h (by omega)).mono ?_
    rintro e v2 ⟨A1, n1, c1, rfl, g1, hb1⟩
    replace x_r := x_r.keep hb1
    replace h := h.go hb1
    replace hb := bthen hb hb1
    clear hb1
    replace q_r := x_r.al
    rw [HN.out] at g1
    go_wp2
    replace h := h.sput (b' := false) (A' := A1) (n' := n1) (c' := c1) x_r
    replace g1 := g1.sput (b' := false) (A' := A1) (n' := n1) (c' := c1) x_r
    replace hb := put_below (g := w.heap.size) hb (by omega) (.bool false) (.slice A1 n1 c1)
    replace x_r := x_r.put false A1 n1 c1
    clear q_r
    generalize (v2.setCell ⟨w.heap.size, 0, none⟩ (.bool false)).setCell ⟨w.heap.size, 1, none⟩ (.slice A1 n1 c1) = v3 at *
    have q_r := x_r.al
    refine bodyPost_ret (v := .agg #[.bool false, .slice A1 n1 c1]) (by simp [results, Try.results33, go_sem, q_r]) rfl ?_
    exact ZOut.mk g1 hs (ngB_false _).symm hb
  · rcases Nat.eq_zero_or_pos N with h0 | h0
    · subst h0
      go_enter Try.func33, Try.ntmps33
      go_wp2_with fail
      obtain ⟨hb, x_r⟩ := box1 w false none 0 0
      generalize w.alloc (.cells #[.bool false, .slice none 0 0] 32) = v1 at *
      replace h := h.go hb
      have q_r := x_r.al
      go_wp2_with fail
      with_reducible refine (RNorm_any _ _ _ _ _ h (by omega)).mono ?_
      rintro e v2 ⟨A1, n1, c1, rfl, g1, hb1⟩
      replace x_r := x_r.keep hb1
      replace h := h.go hb1
      replace hb := bthen hb hb1
      clear hb1
      replace q_r := x_r.al
      rw [HN.out] at g1
      obtain rfl := rd_zero g1 rfl
      go_wp2
      replace h := h.sput (b' := false) (A' := A1) (n' := 0) (c' := c1) x_r
      replace g1 := g1.sput (b' := false) (A' := A1) (n' := 0) (c' := c1) x_r
      replace hb := put_below (g := w.heap.size) hb (by omega) (.bool false) (.slice A1 0 c1)
      replace x_r := x_r.put false A1 0 c1
      clear q_r
      generalize (v2.setCell ⟨w.heap.size, 0, none⟩ (.bool false)).setCell ⟨w.heap.size, 1, none⟩ (.slice A1 0 c1) = v3 at *
      have q_r := x_r.al
      refine bodyPost_ret (v := .agg #[.bool false, .slice A1 0 c1]) (by simp [results, Try.results33, go_sem, q_r]) rfl ?_
      exact ZOut.mk g1 hs (ngB_zero _).symm hb
    · skip
      go_enter Try.func33, Try.ntmps33
      go_wp2_with fail
      obtain ⟨hb, x_r⟩ := box1 w false none 0 0
      generalize w.alloc (.cells #[.bool false, .slice none 0 0] 32) = v1 at *
      replace h := h.go hb
      have q_r := x_r.al
      go_wp2_with fail
      with_reducible refine (RNorm_any _ _ _ _ _ h (by omega)).mono ?_
      rintro e v2 ⟨A1, n1, c1, rfl, g1, hb1⟩
      replace x_r := x_r.keep hb1
      replace h := h.go hb1
      replace hb := bthen hb hb1
      clear hb1
      replace q_r := x_r.al
      rw [HN.out] at g1
      have hp := rd_pos g1 h0
      go_wp2
      replace h := h.sput (b' := true) (A' := A1) (n' := n1) (c' := c1) x_r
      replace g1 := g1.sput (b' := true) (A' := A1) (n' := n1) (c' := c1) x_r
      replace hb := put_below (g := w.heap.size) hb (by omega) (.bool true) (.slice A1 n1 c1)
      replace x_r := x_r.put true A1 n1 c1
      clear q_r
      generalize (v2.setCell ⟨w.heap.size, 0, none⟩ (.bool true)).setCell ⟨w.heap.size, 1, none⟩ (.slice A1 n1 c1) = v3 at *
      have q_r := x_r.al
      refine bodyPost_ret (v := .agg #[.bool true, .slice A1 n1 c1]) (by simp [results, Try.results33, go_sem, q_r]) rfl ?_
      exact ZOut.mk g1 hs (ngB_true h0).symm hb

theorem of_neg {m : Int} (h0 : 0 < m) (h1 : m ≤ 9223372036854775808) : IntKind.i64.wrap (-m + 1) = -m + 1 ∧ IntKind.i64.wrap (-(-m + 1)) = m - 1 ∧ IntKind.u64.wrap (m - 1) = m - 1 ∧ IntKind.u64.wrap (m - 1 + 1) = m := by
  refine ⟨i64_keep (by omega) (by omega), ?_, ?_, ?_⟩
  · rw [i64_keep (by omega) (by omega)]; omega
  · rw [wrap_u64]; omega
  · rw [wrap_u64]; omega
set_option maxRecDepth 100000 in
set_option maxHeartbeats 2000000 in
theorem ROf_any (n : Int) {w : World} (h0 : -9223372036854775808 ≤ n) (h1 : n ≤ 9223372036854775807) :
    Calls Try.prog 19 #[.int .i64 n] w (OutZ w n 1) := by
  rcases Int.lt_or_le n 0 with hlt | hge
  · obtain ⟨m, rfl⟩ : ∃ m : Int, n = -m := ⟨-n, by omega⟩
    obtain ⟨e1, e2, e3, e4⟩ := of_neg (m := m) (by omega) (by omega)
    have hlt0 : ¬ (0 ≤ -m) := by omega
    have hm : Lm m := lm_small (by omega) (by omega)
    have hv : -m = zi true m.toNat := by rw [zi_true]; omega
    have hs : Sm m.toNat 1 := by unfold Sm; rw [Nat.pow_one, Wd_eq]; omega
    rw [show OutZ w (-m) 1 = OutZ w (zi true m.toNat) 1 by rw [← hv]]
    clear hv
    go_enter Try.func19, Try.ntmps19
    go_wp2_with fail
    obtain ⟨hb, x_r⟩ := box1 w false none 0 0
    have hsz : (w.alloc (.cells #[.bool false, .slice none 0 0] 32)).heap.size = w.heap.size + 1 := by simp
    generalize w.alloc (.cells #[.bool false, .slice none 0 0] 32) = v1 at *
    have HSZ := Lib.hid hsz; clear hsz
    have q_r := x_r.al
    have hb1 := below_alloc v1 (.cells #[.int .u64 m] 59)
    replace x_r := x_r.keep hb1
    replace hb := bthen hb hb1
    clear hb1
    replace q_r := x_r.al
    have u1 := lay1s v1 m hm HSZ.out
    clear q_r
    generalize v1.alloc (.cells #[.int .u64 m] 59) = v2 at *
    have q_r := x_r.al
    skip
    with_reducible refine (RMake_any (b := true) u1 m.toNat 1 (vl_one _) hs (by omega)).mono ?_
    rintro e v3 ⟨A1, n1, c1, rfl, z1, hb1⟩
    replace x_r := x_r.keep hb1
    replace u1 := u1.go hb1
    replace hb := bthen hb hb1
    clear hb1
    replace q_r := x_r.al
    go_wp2
    replace u1 := u1.sput (b' := (ngB (zi true m.toNat))) (A' := A1) (n' := n1) (c' := c1) x_r
    replace z1 := z1.put (b' := (ngB (zi true m.toNat))) (A' := A1) (n' := n1) (c' := c1) x_r
    replace hb := put_below (g := w.heap.size) hb (by omega) (.bool (ngB (zi true m.toNat))) (.slice A1 n1 c1)
    replace x_r := x_r.put (ngB (zi true m.toNat)) A1 n1 c1
    clear q_r
    generalize (v3.setCell ⟨w.heap.size, 0, none⟩ (.bool (ngB (zi true m.toNat)))).setCell ⟨w.heap.size, 1, none⟩ (.slice A1 n1 c1) = v4 at *
    have q_r := x_r.al
    refine bodyPost_ret (v := .agg #[.bool (ngB (zi true m.toNat)), .slice A1 n1 c1]) (by simp [results, Try.results19, go_sem, q_r]) rfl ?_
    exact ⟨_, _, _, rfl, z1, hb⟩
  · have e1 : IntKind.u64.wrap n = n := by rw [wrap_u64]; omega
    have hm : Lm n := lm_small (by omega) (by omega)
    have hv : n = zi false n.toNat := by rw [zi_false]; omega
    have hs : Sm n.toNat 1 := by unfold Sm; rw [Nat.pow_one, Wd_eq]; omega
    rw [show OutZ w n 1 = OutZ w (zi false n.toNat) 1 by rw [← hv]]
    clear hv
    go_enter Try.func19, Try.ntmps19
    go_wp2_with fail
    obtain ⟨hb, x_r⟩ := box1 w false none 0 0
    have hsz : (w.alloc (.cells #[.bool false, .slice none 0 0] 32)).heap.size = w.heap.size + 1 := by simp
    generalize w.alloc (.cells #[.bool false, .slice none 0 0] 32) = v1 at *
    have HSZ := Lib.hid hsz; clear hsz
    have q_r := x_r.al
    have hb1 := below_alloc v1 (.cells #[.int .u64 n] 59)
    replace x_r := x_r.keep hb1
    replace hb := bthen hb hb1
    clear hb1
    replace q_r := x_r.al
    have u1 := lay1s v1 n hm HSZ.out
    clear q_r
    generalize v1.alloc (.cells #[.int .u64 n] 59) = v2 at *
    have q_r := x_r.al
    skip
    with_reducible refine (RMake_any (b := false) u1 n.toNat 1 (vl_one _) hs (by omega)).mono ?_
    rintro e v3 ⟨A1, n1, c1, rfl, z1, hb1⟩
    replace x_r := x_r.keep hb1
    replace u1 := u1.go hb1
    replace hb := bthen hb hb1
    clear hb1
    replace q_r := x_r.al
    go_wp2
    replace u1 := u1.sput (b' := (ngB (zi false n.toNat))) (A' := A1) (n' := n1) (c' := c1) x_r
    replace z1 := z1.put (b' := (ngB (zi false n.toNat))) (A' := A1) (n' := n1) (c' := c1) x_r
    replace hb := put_below (g := w.heap.size) hb (by omega) (.bool (ngB (zi false n.toNat))) (.slice A1 n1 c1)
    replace x_r := x_r.put (ngB (zi false n.toNat)) A1 n1 c1
    clear q_r
    generalize (v3.setCell ⟨w.heap.size, 0, none⟩ (.bool (ngB (zi false n.toNat)))).setCell ⟨w.heap.size, 1, none⟩ (.slice A1 n1 c1) = v4 at *
    have q_r := x_r.al
    refine bodyPost_ret (v := .agg #[.bool (ngB (zi false n.toNat)), .slice A1 n1 c1]) (by simp [results, Try.results19, go_sem, q_r]) rfl ?_
    exact ⟨_, _, _, rfl, z1, hb⟩
end
end Go.Proofs.Ytbpamkpclofnbaa
namespace Go.Proofs.Ytbpamkpclofnbaa
section
set_option maxRecDepth 100000
open Go.RowKit
set_option linter.unusedVariables false

theorem rem32 {S : Int} (h0 : 0 ≤ S) (h1 : S < 18446744073709551616) : S.tmod 4294967296 = S % 4294967296 ∧ IntKind.u64.wrap (S.tdiv 4294967296) = S / 4294967296 := by
  refine ⟨Int.tmod_eq_emod_of_nonneg h0, ?_⟩
  rw [Int.tdiv_eq_ediv_of_nonneg h0, wrap_u64]
  omega
end
end Go.Proofs.Ytbpamkpclofnbaa
namespace Go.Proofs.Ytbpamkpclofnbaa
section
set_option maxRecDepth 100000
open Go.RowKit
set_option linter.unusedVariables false

def MhInv (T : Nat) (la lb : List Int) (i : Nat) (L : List Int) : Prop := L.length = T ∧ Lim Hb L ∧ vl Hb L = vl Hb (la.take i) * vl Hb lb
/-- The inner loop: k digits of lb are done. -/
def MkInv (T : Nat) (lb L0 : List Int) (i : Nat) (x : Int) (k : Nat) (L : List Int) (c : Int) : Prop :=
  L.length = T ∧ Lim Hb L ∧ 0 ≤ c ∧ c < 4294967296 ∧ L[i + lb.length]? = L0[i + lb.length]? ∧ vl Hb L + Hb ^ (i + k) * c.toNat = vl Hb L0 + Hb ^ i * (x.toNat * vl Hb (lb.take k))
theorem MkInv.step {T : Nat} {lb L0 L : List Int} {i k : Nat} {x c S : Int} (h : MkInv T lb L0 i x k L c) (hx : 0 ≤ x ∧ x < 4294967296) (hlb : Lim Hb lb) (hk : k < lb.length) (hL : i + k < L.length)
    (hS : L[i + k] + x * lb[k] + c = S) : MkInv T lb L0 i x (k + 1) (L.set (i + k) (S % 4294967296)) (S / 4294967296) ∧ 0 ≤ S ∧ S < 18446744073709551616 := by
  obtain ⟨h1, h2, h3, h3', h4, h5⟩ := h
  have bz := dig_lt (h2.get hL)
  have by_ := dig_lt (hlb.get hk)
  have hs := vl_set Hb L (i + k) hL (S % 4294967296)
  have ht := vl_take_succ Hb lb k hk
  generalize L[i + k] = z at *
  generalize lb[k] = y at *
  have hp := halves_mul x y ⟨hx.1, by omega⟩ ⟨by_.1, by omega⟩
  have hxy : (x * y).toNat = x.toNat * y.toNat := Int.toNat_mul hx.1 by_.1
  generalize x * y = p at *
  refine ⟨⟨by simpa using h1, h2.set _ (by rw [Hb_eq]; omega), by omega, by omega, by rw [List.getElem?_set_ne (by omega)]; exact h4, ?_⟩, by omega, by omega⟩
  have e4 : (S % 4294967296).toNat + Hb * (S / 4294967296).toNat = z.toNat + p.toNat + c.toNat := by rw [Hb_eq]; omega
  have e5 : Hb ^ (i + k) * ((S % 4294967296).toNat + Hb * (S / 4294967296).toNat) = Hb ^ (i + k) * (z.toNat + p.toNat + c.toNat) := by rw [e4]
  simp only [Nat.mul_add] at e5
  rw [ht, Nat.mul_add x.toNat, Nat.mul_add (Hb ^ i), show i + (k + 1) = i + k + 1 by omega, Nat.pow_succ, Nat.mul_assoc]
  have e6 : Hb ^ i * (x.toNat * (Hb ^ k * y.toNat)) = Hb ^ (i + k) * p.toNat := by
    rw [hxy, Nat.pow_add, Nat.mul_left_comm x.toNat, ← Nat.mul_assoc (Hb ^ i)]
  rw [e6]
  omega
theorem zero_atH {l : List Int} (h : Lim Hb l) {j : Nat} (hj : j < l.length) (hv : vl Hb l < Hb ^ j) : l[j] = 0 := by
  have h1 := vl_split Hb l j (by omega)
  rw [vl_drop_step Hb l j hj] at h1
  have h2 := h.get hj
  rcases Nat.eq_zero_or_pos l[j].toNat with h0 | h0
  · omega
  · exfalso
    have : Hb ^ j * 1 ≤ Hb ^ j * (l[j].toNat + Hb * vl Hb (l.drop (j + 1))) := Nat.mul_le_mul_left _ (by omega)
    rw [Nat.mul_one] at this
    generalize Hb ^ j * (l[j].toNat + Hb * vl Hb (l.drop (j + 1))) = r at *
    omega
theorem MhInv.zero {T : Nat} {la lb L : List Int} {i : Nat} (h : MhInv T la lb i L) (hla : Lim Hb la) (hlb : Lim Hb lb) (hi : i ≤ la.length) (hj : i + lb.length < L.length) : L[i + lb.length] = 0 := by
  refine zero_atH h.2.1 hj ?_
  rw [h.2.2, Nat.pow_add]
  have b2 := vl_lt (hla.take i)
  rw [List.length_take, Nat.min_eq_left hi] at b2
  exact Nat.mul_lt_mul'' b2 (vl_lt hlb)
theorem MkInv.last {T : Nat} {la lb L0 L : List Int} {i : Nat} {x c : Int} (h0 : MhInv T la lb i L0) (hla : Lim Hb la) (hlb : Lim Hb lb) (hi : i < la.length) (hx : la[i] = x) (h : MkInv T lb L0 i x lb.length L c) (hj : i + lb.length < L.length) :
    L[i + lb.length] = 0 ∧ MhInv T la lb (i + 1) (L.set (i + lb.length) c) := by
  have hlen : L0.length = L.length := by rw [h0.1, h.1]
  have hz0 := h0.zero hla hlb (by omega) (by omega)
  obtain ⟨h1, h2, h3, h3', h4, h5⟩ := h
  have hz : L[i + lb.length] = 0 := by
    rw [List.getElem?_eq_getElem hj, List.getElem?_eq_getElem (by omega), hz0] at h4
    injection h4
  refine ⟨hz, by simpa using h1, h2.set _ (by rw [Hb_eq]; omega), ?_⟩
  have hs := vl_set Hb L (i + lb.length) hj c
  rw [hz, show (0 : Int).toNat = 0 from rfl, Nat.mul_zero, Nat.add_zero] at hs
  rw [List.take_of_length_le (Nat.le_refl _)] at h5
  rw [hs, h5, h0.2.2, vl_take_succ Hb la i hi, hx, Nat.add_mul]
  rw [Nat.mul_assoc]
theorem Sm.lenH {N k : Nat} (h : Sm N k) : (dg Hb N).length ≤ 2 * k := dg_len_le Hb2 (by rw [Hb_pow]; exact h)
def MhRel (w : World) (g T : Nat) (la lb : List Int) (i : Nat) (wr : World) : Prop := ∃ L, MhInv T la lb i L ∧ Bk wr g L ∧ Below w.heap.size w wr
def MkRel (w : World) (g T : Nat) (lb L0 : List Int) (i : Nat) (x : Int) (cv : Value) (k : Nat) (wr : World) : Prop := ∃ L c, cv = .int .u64 c ∧ MkInv T lb L0 i x k L c ∧ Bk wr g L ∧ Below w.heap.size w wr

set_option maxHeartbeats 4000000 in
theorem rmul_any (A A2 : Option Addr) (n c n2 c2 : Nat) (la lb : List Int) (w : World) (h : Rd w w.heap.size A n c la) (h2 : Rd w w.heap.size A2 n2 c2 lb) (hla : Lim Hb la) (hlb : Lim Hb lb) (hn : n ≤ 10000000) (hn2 : n2 ≤ 10000000) :
    Calls Try.prog 61 #[.slice A n c, .slice A2 n2 c2] w (OutH w (vl Hb la * vl Hb lb)) := by
  have H := Lib.hid h.len
  have H2 := Lib.hid h2.len
  obtain ⟨T, hT⟩ : ∃ T, T = n + n2 + 1 := ⟨_, rfl⟩
  have eT : (n : Int) + n2 + 1 = T := by omega
  have hTb : T ≤ 100000000 := by omega
  have HT := Lib.hid hT; clear hT
  go_enter Try.func61, Try.ntmps61
  go_wp2_with (at_make; refine wp_make64 rfl _ _ rfl T _ _ rfl rfl (by omega) (by omega) (by omega) ?_; intro w1 hbk1 hb1)
  go_loopw [6, 7, 8, 9] (fun iv _ _ _ wr => ∃ i : Nat, i ≤ n ∧ iv = .int .i64 i ∧ MhRel w w.heap.size T la lb i wr) (fun iv _ _ _ _ => n - (intOf iv).toNat)
  case atStart => exact ⟨0, Nat.zero_le _, rfl, _, ⟨by simp, Lim_replicate Hb0 _, by rw [vl_replicate]; simp [vl]⟩, hbk1, hb1⟩
  case round =>
    obtain ⟨i, hi, rfl, L0, k1, k2, k3⟩ := hrel
    clear hbk1 hb1
    by_cases hin : i < n
    · have hil : i < la.length := by have := H.out; omega
      obtain ⟨x, hx⟩ : ∃ x, la[i] = x := ⟨_, rfl⟩
      have bx := dig_lt (hla.get hil)
      rw [hx] at bx
      have hlast := fun L c (hh : MkInv T lb L0 i x lb.length L c) hj => MkInv.last k1 hla hlb hil hx hh hj
      have HLA := Lib.hid hlast; have HX := Lib.hid hx
      have hL0 := k1.1
      clear hlast hx
      go_wp2
      go_loopw [7, 8, 9] (fun cv kv _ wr => ∃ k : Nat, k ≤ n2 ∧ kv = .int .i64 k ∧ MkRel w w.heap.size T lb L0 i x cv k wr) (fun _ kv _ _ => n2 - (intOf kv).toNat)
      case atStart => exact ⟨0, Nat.zero_le _, rfl, L0, 0, rfl, ⟨hL0, k1.2.1, by omega, by omega, rfl, by simp [vl]⟩, k2, k3⟩
      case round =>
        clear k2 k3
        obtain ⟨k, hk, rfl, L, cy, rfl, j1, j2, j3⟩ := hrel
        have hLT := j1.1
        by_cases hkn : k < n2
        · have hkl : k < lb.length := by have := H2.out; omega
          have hikL : i + k < L.length := by have := HT.out; omega
          obtain ⟨b, of, rfl, hb, hc⟩ := (h.below j3).at_ (by omega)
          obtain ⟨b2, of2, rfl, hb2, hc2⟩ := (h2.below j3).at_ (by omega)
          have ca := hc i hil
          rw [HX.out] at ca
          have cb := hc2 k hkl
          have co := j2.cell (i + k) hikL
          have fo := j2.frozen (i + k)
          have bz := dig_lt (j1.2.1.get hikL)
          have by_ := dig_lt (hlb.get hkl)
          have hcy0 := j1.2.2.1
          have hcy1 := j1.2.2.2.1
          obtain ⟨S, hS⟩ : ∃ S, L[i + k] + x * lb[k] + cy = S := ⟨_, rfl⟩
          obtain ⟨st, hS0, hS1⟩ := j1.step bx hlb hkl hikL hS
          obtain ⟨er, eq⟩ := rem32 hS0 hS1
          have s1 := j2.set (i + k) (S % 4294967296)
          clear hc hc2
          generalize L[i + k] = z at *
          generalize lb[k] = y at *
          have hp := halves_mul x y ⟨bx.1, by omega⟩ ⟨by_.1, by omega⟩
          have ep0 : IntKind.u64.wrap (x * y) = x * y := by rw [wrap_u64]; omega
          obtain ⟨p, hpe⟩ : ∃ p, x * y = p := ⟨_, rfl⟩
          have f1 : IntKind.u64.wrap (IntKind.u64.wrap (z + IntKind.u64.wrap (x * y)) + cy) = S := by rw [ep0, hpe]; rw [hpe] at hp hS; simp only [wrap_u64]; omega
          have F1 := Lib.hid f1; clear f1
          rw [hpe] at hp ep0 hS
          have ep1 : IntKind.u64.wrap (z + p) = z + p := by rw [wrap_u64]; omega
          have ep2 : IntKind.u64.wrap (z + p + cy) = S := by rw [wrap_u64]; omega
          have ep2' : IntKind.u64.wrap S = S := by rw [wrap_u64]; omega
          obtain ⟨r, hr⟩ : ∃ r, S % 4294967296 = r := ⟨_, rfl⟩
          obtain ⟨q, hq⟩ : ∃ q, S / 4294967296 = q := ⟨_, rfl⟩
          rw [hr] at er st s1
          rw [hq] at eq st
          obtain ⟨u, hu⟩ : ∃ u, u = i + k := ⟨_, rfl⟩
          have eu : (i : Int) + k = u := by omega
          have eu2 : IntKind.i64.wrap ((i : Int) + k) = u := by rw [IntKind.wrap_i64]; omega
          have huT : (u : Int) < T := by have := HT.out; omega
          rw [← hu] at co fo s1
          have R : MkRel w w.heap.size T lb L0 i x (.int .u64 q) (k + 1) ((wr.setCell ⟨w.heap.size, u, none⟩ (.int .u64 r))) := ⟨_, _, rfl, by rw [hu] at *; exact st, s1, j3.setCell (Nat.le_refl _) _⟩
          have R' : ∀ nq, MkRel w w.heap.size T lb L0 i x (.int .u64 q) (k + 1) (((wr.drewN nq).setCell ⟨w.heap.size, u, none⟩ (.int .u64 r))) := fun nq => by
            obtain ⟨LL, cc, a1, a2, a3, a4⟩ := R
            exact ⟨LL, cc, a1, a2, a3, ⟨a4.os, a4.tape, a4.output, a4.size, a4.block⟩⟩
          have HR := Lib.hid R'
          have hkn' : (k : Int) < n2 := by omega
          have hin' : (i : Int) < n := by omega
          have HU := Lib.hid hu
          clear st s1 R R' j1 j2 j3 hr hq hu hLT hikL hpe
          go_wp2
          go_quiet (fail)
          have co' : (wr.drewN nq).cell? ⟨w.heap.size, u, none⟩ = _ := co
          have fo' : (wr.drewN nq).frozen? ⟨w.heap.size, u, none⟩ = _ := fo
          have R1 := HR.out nq
          generalize wr.drewN nq = wq at *
          clear co fo ca cb HR
          go_wp2
          go_roundw
          case rel => first | exact ⟨k + 1, by omega, by go_num, R1⟩ | (rw [F1.out, er, eq]; exact ⟨k + 1, by omega, by go_num, R1⟩)
          case measure => simp [intOf]; omega
        · obtain rfl : n2 = k := by omega
          have hln := H2.out
          have hj : i + lb.length < L.length := by have := HT.out; omega
          obtain ⟨hz, hst⟩ := HLA.out L cy (by rw [hln]; exact j1) hj
          have co := j2.cell (i + lb.length) hj
          rw [hz] at co
          have fo := j2.frozen (i + lb.length)
          have s1 := j2.set (i + lb.length) cy
          rw [hln] at co fo s1 hst
          have hcy0 := j1.2.2.1
          have hcy1 := j1.2.2.2.1
          obtain ⟨u, hu⟩ : ∃ u, u = i + n2 := ⟨_, rfl⟩
          have eu : (i : Int) + n2 = u := by omega
          have huT : (u : Int) < T := by have := HT.out; omega
          rw [← hu] at co fo s1 hst
          have R : MhRel w w.heap.size T la lb (i + 1) ((wr.setCell ⟨w.heap.size, u, none⟩ (.int .u64 cy))) := ⟨_, hst, s1, j3.setCell (Nat.le_refl _) _⟩
          have HU := Lib.hid hu
          clear hst s1 j1 j2 j3 hz hj hln hu hLT
          go_wp2
          go_roundw
          case rel => exact ⟨i + 1, by omega, by go_num, R⟩
          case measure => simp [intOf]; omega
    · obtain rfl : n = i := by omega
      obtain ⟨i1, i2, i3⟩ := k1
      rw [List.take_of_length_le (by have := H.out; omega)] at i3
      have hw3 := k2.whole (B := wr.heap.size) (n := T) (c := T) k2.lt i1 (Nat.le_refl _) (by omega) (Lim_Wd i2)
      have H3 := Lib.hid i3
      clear i1 i3
      go_wp2_with fail
      refine (Trim_any _ _ _ _ _ _ hw3 i2).mono ?_
      rintro e w' ⟨n5, rfl, _, hrd5, rfl⟩
      rw [H3.out] at hrd5
      go_wp2
      go_ret
      exact ⟨_, _, _, rfl, hrd5, k3⟩

set_option maxHeartbeats 400000 in
theorem RMul_any (A A2 : Option Addr) (n c n2 c2 : Nat) (l m : List Int) (w : World) (h : Rd w w.heap.size A n c l) (h2 : Rd w w.heap.size A2 n2 c2 m) (hn : n ≤ 1000000) (hn2 : n2 ≤ 1000000) :
    Calls Try.prog 34 #[.slice A n c, .slice A2 n2 c2] w (Out w (vl Wd l * vl Wd m)) := by
  have Z1 := Lib.hid (Sm.of h hn)
  have Z2 := Lib.hid (Sm.of h2 hn2)
  go_enter Try.func34, Try.ntmps34
  go_wp2_with fail
  refine (Digits_any _ _ _ _ _ h (by omega)).mono ?_
  rintro e w1 ⟨A1, n1, c1, rfl, g1, hb1⟩
  go_wp2_with fail
  refine (Digits_any _ _ _ _ _ ((h2.below hb1).more hb1.size) (by omega)).mono ?_
  rintro e w2 ⟨A3, n3, c3, rfl, g2, hb2⟩
  have g1 := (g1.below hb2).more hb2.size
  have hb := hb1.trans (hb2.mono hb1.size)
  have y1 := g1.smallH Z1.out
  have y2 := g2.smallH Z2.out
  have y3 := (Sm.mul Z1.out Z2.out).lenH
  have HY3 := Lib.hid y3
  clear Z1 Z2 y3
  go_wp2_with fail
  refine (rmul_any _ _ _ _ _ _ _ _ _ g1 g2 (Lim_dg Hb2 _) (Lim_dg Hb2 _) (by omega) (by omega)).mono ?_
  rintro e w3 ⟨A4, n4, c4, rfl, g3, hb3⟩
  rw [vl_dg Hb2, vl_dg Hb2] at g3
  have hb := hb.trans (hb3.mono hb.size)
  have y4 : n4 ≤ 4000000 := by have := HY3.out; rw [g3.len] at this; omega
  go_wp2_with fail
  refine (Limbs_any _ _ _ _ _ g3 (Lim_dg Hb2 _) (by omega)).mono ?_
  rintro e w4 ⟨A5, n5, c5, rfl, g4, hb4⟩
  rw [vl_dg Hb2] at g4
  have hb := hb.trans (hb4.mono hb.size)
  go_wp2
  go_ret
  exact ⟨_, _, _, rfl, g4, hb⟩
end
end Go.Proofs.Ytbpamkpclofnbaa
namespace Go.Proofs.Ytbpamkpclofnbaa
section
set_option maxRecDepth 100000
open Go.RowKit
set_option linter.unusedVariables false

set_option maxRecDepth 100000 in
set_option maxHeartbeats 4000000 in
theorem RMulZ_any {b b2 : Bool} {A A2 : Option Addr} {n c n2 c2 : Nat} {X Y : Int} {j j2 : Nat} {w : World} (h : Zr w b A n c X j) (h2 : Zr w b2 A2 n2 c2 Y j2) (k : Nat) (hk : j + j2 ≤ k) (hj : k ≤ 100000) :
    Calls Try.prog 12 #[.agg #[.bool b, .slice A n c], .agg #[.bool b2, .slice A2 n2 c2]] w (OutZ w (X * Y) k) := by
  obtain ⟨l, h, rfl, hn⟩ := h
  obtain ⟨m, h2, rfl, hn2⟩ := h2
  have hs := Sm.of h hn
  have hs2 := Sm.of h2 hn2
  generalize hN : vl Wd l = N at *
  have HN := Lib.hid hN; clear hN
  generalize hM : vl Wd m = M at *
  have HM := Lib.hid hM; clear hM
  rw [zi_mul']
  have hs3 : Sm (N * M) k := (hs.mul hs2).mono hk
  clear hs hs2
  go_enter Try.func12, Try.ntmps12
  go_wp2_with fail
  obtain ⟨hb, x_a, x_b, x_r⟩ := box3 w b A n c b2 A2 n2 c2 false none 0 0
  generalize ((w.alloc (.cells #[.bool b, .slice A n c] 32)).alloc (.cells #[.bool b2, .slice A2 n2 c2] 32)).alloc (.cells #[.bool false, .slice none 0 0] 32) = v1 at *
  replace h := h.go hb
  replace h2 := h2.go hb
  have q_a := x_a.al
  have q_b := x_b.al
  have q_r := x_r.al
  go_wp2_with fail
  go_region_held3 (fun w' => w'.cell? ⟨w.heap.size, 0, none⟩ = some (.bool b) ∧ w'.cell? ⟨w.heap.size, 1, none⟩ = some (.slice A n c) ∧ w'.cell? ⟨w.heap.size + 1, 0, none⟩ = some (.bool b2) ∧ w'.cell? ⟨w.heap.size + 1, 1, none⟩ = some (.slice A2 n2 c2))
    (first | (with_reducible exact ⟨x_a.c0, x_a.c1, x_b.c0, x_b.c1⟩) | (with_reducible exact ⟨(x_a.aside (by omega)).c0, (x_a.aside (by omega)).c1, (x_b.aside (by omega)).c0, (x_b.aside (by omega)).c1⟩) | (with_reducible exact ⟨((x_a.aside (by omega)).aside (by omega)).c0, ((x_a.aside (by omega)).aside (by omega)).c1, ((x_b.aside (by omega)).aside (by omega)).c0, ((x_b.aside (by omega)).aside (by omega)).c1⟩) | go_keep)
    (first | (go_at_call 34; (with_reducible refine (RMul_any _ _ _ _ _ _ _ _ _ h.drw h2.drw (by omega) (by omega)).mono ?_); rintro e v2 ⟨A1, n1, c1, rfl, g1, hb1⟩; replace hb1 := undrew hb1; obtain ⟨x_a, x_b, x_r⟩ := mv3 hb1 x_a x_b x_r; replace h := h.go hb1; replace h2 := h2.go hb1; replace hb := bthen hb hb1; clear hb1; replace q_a := x_a.al; replace q_b := x_b.al; replace q_r := x_r.al; rw [HN.out, HM.out] at g1; have zn1 := g1.small hs3) | (go_at_call 33; (with_reducible refine (RMake_any (b := (!(b == b2))) g1 (N * M) k (vl_dg Wd2 _) hs3 (by omega)).mono ?_); rintro e v3 ⟨A2_, n2_, c2_, rfl, z1, hb1⟩; obtain ⟨x_a, x_b, x_r⟩ := mv3 hb1 x_a x_b x_r; replace h := h.go hb1; replace h2 := h2.go hb1; replace g1 := g1.go hb1; replace hb := bthen hb hb1; clear hb1; replace q_a := x_a.al; replace q_b := x_b.al; replace q_r := x_r.al))
  go_wp2
  replace x_a := x_a.aside (b' := (ngB (zi (!(b == b2)) (N * M)))) (A' := A2_) (n' := n2_) (c' := c2_) (g := w.heap.size + 1 + 1) (by omega)
  replace x_b := x_b.aside (b' := (ngB (zi (!(b == b2)) (N * M)))) (A' := A2_) (n' := n2_) (c' := c2_) (g := w.heap.size + 1 + 1) (by omega)
  replace h := h.sput (b' := (ngB (zi (!(b == b2)) (N * M)))) (A' := A2_) (n' := n2_) (c' := c2_) x_r
  replace h2 := h2.sput (b' := (ngB (zi (!(b == b2)) (N * M)))) (A' := A2_) (n' := n2_) (c' := c2_) x_r
  replace g1 := g1.sput (b' := (ngB (zi (!(b == b2)) (N * M)))) (A' := A2_) (n' := n2_) (c' := c2_) x_r
  replace z1 := z1.put (b' := (ngB (zi (!(b == b2)) (N * M)))) (A' := A2_) (n' := n2_) (c' := c2_) x_r
  replace hb := put_below (g := w.heap.size + 1 + 1) hb (by omega) (.bool (ngB (zi (!(b == b2)) (N * M)))) (.slice A2_ n2_ c2_)
  replace x_r := x_r.put (ngB (zi (!(b == b2)) (N * M))) A2_ n2_ c2_
  clear q_a q_b q_r
  generalize (v3.setCell ⟨w.heap.size + 1 + 1, 0, none⟩ (.bool (ngB (zi (!(b == b2)) (N * M))))).setCell ⟨w.heap.size + 1 + 1, 1, none⟩ (.slice A2_ n2_ c2_) = v4 at *
  have q_a := x_a.al
  have q_b := x_b.al
  have q_r := x_r.al
  refine bodyPost_ret (v := .agg #[.bool (ngB (zi (!(b == b2)) (N * M))), .slice A2_ n2_ c2_]) (by simp [results, Try.results12, go_sem, q_r]) rfl ?_
  exact ⟨_, _, _, rfl, z1, hb⟩
end
end Go.Proofs.Ytbpamkpclofnbaa
namespace Go.Proofs.Ytbpamkpclofnbaa
section
set_option maxRecDepth 100000
open Go.RowKit
set_option linter.unusedVariables false

end
end Go.Proofs.Ytbpamkpclofnbaa
namespace Go.Proofs.Ytbpamkpclofnbaa
section
set_option maxRecDepth 100000
open Go.RowKit
set_option linter.unusedVariables false

end
end Go.Proofs.Ytbpamkpclofnbaa
namespace Go.Proofs.Ytbpamkpclofnbaa
section
set_option maxRecDepth 100000
open Go.RowKit
set_option linter.unusedVariables false

end
end Go.Proofs.Ytbpamkpclofnbaa
