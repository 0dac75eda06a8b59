/-
  The document's answer for zed: Sign, Cmp, Same, BitLen, Shl, Shr.
-/
import Derived.Test.YtiikmjnnlckiiaaPb
import Derived.Deep.AppendLies
import Derived.Test.YtiikmjnnlckiiaaPc
namespace Go.Proofs.Ytiikmjnnlckiiaa
section
set_option maxRecDepth 100000
open Go.RowKit
set_option linter.unusedVariables false

def Hb : Nat := 4294967296
theorem Hb_eq : Hb = 4294967296 := rfl
theorem Hb2 : 2 ≤ Hb := by decide
theorem Hb0 : 0 < Hb := Nat.lt_of_lt_of_le (by omega) Hb2
theorem Hb_sq : Hb * Hb = Wd := by decide
theorem Hb_pow (k : Nat) : Hb ^ (2 * k) = Wd ^ k := by rw [Nat.pow_mul, show Hb ^ 2 = Wd by rw [Nat.pow_two]; exact Hb_sq]
theorem Lim_Wd {l : List Int} (h : Lim Hb l) : Lim Wd l := fun x hx => by
  have := h x hx
  rw [Hb_eq] at this
  rw [Wd_eq]; omega
theorem dig_lt {x : Int} (h : 0 ≤ x ∧ x < (Hb : Int)) : 0 ≤ x ∧ x < 4294967296 := by rw [Hb_eq] at h; omega

/-- What a function of digits hands back. -/
def OutH (w : World) (N : Nat) (e : Ending) (w' : World) : Prop := ∃ A n c, e = .returned (.slice A n c) ∧ Rd w' w'.heap.size A n c (dg Hb N) ∧ Below w.heap.size w w'

theorem Rd.trimmedB {b : Nat} (hb : 2 ≤ b) {w : World} {B n c : Nat} {A : Option Addr} {l : List Int} (h : Rd w B A n c l) (hl : Lim b l) {k : Nat} (hk : k ≤ n) (hz : ∀ j (hj : j < l.length), k ≤ j → l[j] = 0)
    (ht : ∀ hh : 0 < k, ∃ hj : k - 1 < l.length, l[k - 1] ≠ 0) : Rd w B A k c (dg b (vl b l)) := by
  rw [dg_take hb hl (by have := h.len; omega) hz (fun hh => (ht hh).2)]
  exact h.take hk

/-- Two digits a limb. -/
def DgInv (T : Nat) (l : List Int) (k : Nat) (L : List Int) : Prop := L.length = T ∧ Lim Hb L ∧ vl Hb (L.take (2 * k)) = vl Wd (l.take k)
theorem DgInv.step {T : Nat} {l L : List Int} {k : Nat} (h : DgInv T l k L) (hl : Lim Wd l) (hk : k < l.length) (hT : 2 * k + 1 < L.length) :
    DgInv T l (k + 1) ((L.set (2 * k) (l[k] % 4294967296)).set (2 * k + 1) (l[k] / 4294967296)) := by
  obtain ⟨h1, h2, h3⟩ := h
  have hx := hl.get hk
  have hs := vl_take_succ Wd l k hk
  generalize l[k] = x at *
  have b0 : 0 ≤ x % 4294967296 ∧ x % 4294967296 < (Hb : Int) := by rw [Hb_eq]; omega
  have b1 : 0 ≤ x / 4294967296 ∧ x / 4294967296 < (Hb : Int) := by rw [Wd_eq] at hx; rw [Hb_eq]; omega
  refine ⟨by simpa using h1, (h2.set _ b0).set _ b1, ?_⟩
  have e1 := vl_take_succ Hb ((L.set (2 * k) (x % 4294967296)).set (2 * k + 1) (x / 4294967296)) (2 * k + 1) (by simpa using hT)
  have e2 := vl_take_succ Hb ((L.set (2 * k) (x % 4294967296)).set (2 * k + 1) (x / 4294967296)) (2 * k) (by simp; omega)
  rw [List.getElem_set_self] at e1
  have t1 : ((L.set (2 * k) (x % 4294967296)).set (2 * k + 1) (x / 4294967296)).take (2 * k) = L.take (2 * k) := by
    rw [List.take_set_of_le (by omega), List.take_set_of_le (Nat.le_refl _)]
  rw [t1, List.getElem_set_ne (by omega), List.getElem_set_self] at e2
  rw [show 2 * (k + 1) = 2 * k + 1 + 1 by omega, e1, e2, h3, hs, Nat.pow_succ, Hb_pow]
  have e3 : (x % 4294967296).toNat + Hb * (x / 4294967296).toNat = x.toNat := by rw [Hb_eq]; omega
  rw [Nat.mul_assoc, ← e3, Nat.mul_add]
  omega
theorem div32 {x : Int} (hx : Lm x) : x.tmod 4294967296 = x % 4294967296 ∧ IntKind.u64.wrap (x.tdiv 4294967296) = x / 4294967296 := by
  refine ⟨Int.tmod_eq_emod_of_nonneg hx.1, ?_⟩
  unfold Lm at hx
  rw [Wd_eq] at hx
  rw [Int.tdiv_eq_ediv_of_nonneg hx.1, wrap_u64]
  omega
def DgRel (w : World) (g T : Nat) (l : List Int) (k : Nat) (wr : World) : Prop := ∃ L, DgInv T l k L ∧ Bk wr g L ∧ Below w.heap.size w wr

end
end Go.Proofs.Ytiikmjnnlckiiaa
namespace Go.Proofs.Ytiikmjnnlckiiaa
section
set_option maxRecDepth 100000
open Go.RowKit
set_option linter.unusedVariables false

/-- A slice that the call itself has made, of limbs. -/
def Ow (w : World) (base : Nat) (v : Value) (l : List Int) : Prop := w.ownsRow base 43 1 v l.length (l.map (Value.int .u64))
theorem Ow.nil (w : World) (base : Nat) : Ow w base (.slice none 0 0) [] := World.ownsRow_nil _ _ _ _
theorem Ow.alloc {w : World} {base : Nat} {v : Value} {l : List Int} (h : Ow w base v l) (o : Obj) : Ow (w.alloc o) base v l := World.ownsRow.alloc h o
theorem Ow.slice {w : World} {base : Nat} {v : Value} {l : List Int} (h : Ow w base v l) : ∃ A c, v = .slice A l.length c ∧ l.length ≤ c := by
  rcases h.2 with ⟨h1, h2⟩ | ⟨g, cap, cur, hv, _, _, hnc, _⟩
  · exact ⟨none, 0, by rw [h2]; exact h1, by omega⟩
  · exact ⟨_, _, hv, hnc⟩
theorem Ow.rd {w : World} {base : Nat} {v : Value} {l : List Int} (h : Ow w base v l) (hl : Lim Wd l) (hn : l.length ≤ 17592186044416) : ∃ A n c, v = .slice A n c ∧ Rd w w.heap.size A n c l := by
  rcases h.2 with ⟨h1, h2⟩ | ⟨g, cap, cur, hv, hbg, hh, hnc, _⟩
  · have : l = [] := List.eq_nil_of_length_eq_zero h2
    subst this
    exact ⟨_, _, _, h1, Rd.nil⟩
  · refine ⟨_, _, _, hv, rfl, hnc, hn, hl, fun _ => ⟨g, 0, rfl, (Array.getElem?_eq_some_iff.1 hh).1, fun k hk => ?_⟩⟩
    have hc := World.ownsRow.cells h (g := g) (by rw [hv]; rfl) k (.int .u64 l[k]) (by simp [hk])
    rw [← hc]
    unfold Addr.add
    by_cases h0 : k = 0
    · subst h0; simp
    · rw [if_neg h0]

theorem wp_push64 {W : World} {ops : Array Oper} {rest : List Oper} {o : Oper} {a : Act} {Q : Exit → Act → World → Prop} (hg : o.guard = none) (s x : Operand)
    (hop : o.op = .call { callee := .builtin .append, args := #[s, x], argTypes := #[23, 23] }) (base : Nat) (v : Value) (l : List Int) (hs : a.eval s = v) (hown : Ow W base v l)
    (g0 : Nat) (y : Int) (hx : a.eval x = .slice (some ⟨g0, 0, none⟩) 1 1) (hc : W.cell? ⟨g0, 0, none⟩ = some (.int .u64 y)) (hlen : l.length ≤ 8796093022208) (hbase : base ≤ W.heap.size)
    (hK : ∀ v' w', Ow w' base v' (l ++ [y]) → Below base W w' → wpList Try.prog ops Q rest (a.put o.dst v') w') : wpList Try.prog ops Q (o :: rest) a W := by
  obtain ⟨i0, hi, hz0, hz1, hz2⟩ := info_parts Try.info64
  refine wpList_append_own W hg s x 23 hop base 43 i0 (.int .u64 0) 1 8 Try.underlying23 hi hz0 hz1 hz2 rfl (by decide) v _ _ hs hown ⟨g0, 0, none⟩ 1 1 [.int .u64 y] hx rfl ?_ ?_ (by unfold maxLen; omega) (by omega) hbase ?_
  · intro j u hj
    match j, hj with
    | 0, hj => simp at hj; subst hj; simpa [Addr.add] using hc
  · intro u hu; simp at hu; subst hu; rfl
  · intro v' w' h1 h2 _
    refine hK v' w' ?_ ⟨h2.os, h2.tape, h2.output, h2.size, fun k hk => h2.block k (by omega) (fun e => by have := (World.ownsRow.lt hown k e.symm).1; omega)⟩
    unfold Ow
    simpa using h1

theorem dg_of_len {b : Nat} (hb : 2 ≤ b) {l : List Int} {N : Nat} (hl : Lim b l) (hv : vl b l = N) (ht : 0 < l.length → b ^ (l.length - 1) ≤ N) : l = dg b N := by
  subst hv
  symm
  refine dg_of hb hl fun x hx h0 => ?_
  subst h0
  rw [List.getLast?_eq_getElem?] at hx
  have hpos : 0 < l.length := by
    rcases Nat.eq_zero_or_pos l.length with h | h
    · have : l = [] := List.eq_nil_of_length_eq_zero h
      subst this; simp at hx
    · exact h
  have hlt : l.length - 1 < l.length := by omega
  rw [List.getElem?_eq_getElem hlt] at hx
  injection hx with hx
  have h1 := vl_split b l (l.length - 1) (by omega)
  rw [vl_drop_step b l _ hlt, hx, List.drop_eq_nil_of_le (by omega)] at h1
  have h2 := vl_lt (hl.take (l.length - 1))
  rw [List.length_take, Nat.min_eq_left (by omega)] at h2
  have h3 := ht hpos
  have e : b ^ (l.length - 1) * ((0 : Int).toNat + b * vl b []) = 0 := by simp [vl]
  omega

theorem Hb_le {m k : Nat} (h : m ≤ 2 * k) : Hb ^ m ≤ Wd ^ k := by rw [← Hb_pow]; exact Nat.pow_le_pow_right Hb0 h
theorem Rd.smallH {w : World} {B n c k N : Nat} {A : Option Addr} (h : Rd w B A n c (dg Hb N)) (hN : Sm N k) : n ≤ 2 * k := by
  rw [← h.len]
  refine dg_len_le Hb2 ?_
  rw [Hb_pow]; exact hN
/-- Limbs under way: i digits are in. -/
def LbInv (d : List Int) (i : Nat) (l : List Int) : Prop := Lim Wd l ∧ vl Wd l = vl Hb (d.take i) ∧ 2 * l.length = i
theorem LbInv.two {d l : List Int} {i : Nat} (h : LbInv d i l) (hd : Lim Hb d) (h1 : i + 1 < d.length) : LbInv d (i + 2) (l ++ [d[i] + 4294967296 * d[i + 1]]) := by
  obtain ⟨k1, k2, k3⟩ := h
  have b0 := dig_lt (hd.get (show i < d.length by omega))
  have b1 := dig_lt (hd.get h1)
  have e1 := vl_take_succ Hb d i (by omega)
  have e2 := vl_take_succ Hb d (i + 1) h1
  generalize d[i] = x at *
  generalize d[i + 1] = y at *
  refine ⟨Lim_append.2 ⟨k1, fun z hz => ?_⟩, ?_, by simp; omega⟩
  · simp at hz; subst hz; rw [Wd_eq]; omega
  · rw [vl_append, vl_one, k2, show i + 2 = i + 1 + 1 by omega, e2, e1, ← Hb_pow, k3, Nat.pow_succ]
    have e3 : (x + 4294967296 * y).toNat = x.toNat + Hb * y.toNat := by rw [Hb_eq]; omega
    rw [e3, Nat.mul_add, Nat.mul_assoc]
    omega
theorem LbInv.one {d l : List Int} {i : Nat} (h : LbInv d i l) (hd : Lim Hb d) (h1 : i + 1 = d.length) : Lim Wd (l ++ [d[i]]) ∧ vl Wd (l ++ [d[i]]) = vl Hb d ∧ 2 * (l ++ [d[i]]).length = d.length + 1 := by
  obtain ⟨k1, k2, k3⟩ := h
  have hi : i < d.length := by omega
  have b0 := dig_lt (hd.get hi)
  have e1 := vl_take_succ Hb d i hi
  rw [List.take_of_length_le (by omega)] at e1
  refine ⟨Lim_append.2 ⟨k1, fun z hz => ?_⟩, ?_, by simp; omega⟩
  · simp at hz; subst hz; rw [Wd_eq]; omega
  · rw [vl_append, vl_one, k2, e1, ← Hb_pow, k3]
theorem limbs_end {N : Nat} {l : List Int} (hl : Lim Wd l) (hv : vl Wd l = N) (hn : 2 * l.length ≤ (dg Hb N).length + 1) : l = dg Wd N := by
  refine dg_of_len Wd2 hl hv fun hp => ?_
  have h1 := dg_len_ge Hb2 (n := N) (by omega)
  rw [← Hb_pow]
  exact Nat.le_trans (Nat.pow_le_pow_right Hb0 (by omega)) h1
def LbRel (w : World) (d : List Int) (ov : Value) (i : Nat) (wr : World) : Prop := ∃ l, LbInv d i l ∧ Ow wr w.heap.size ov l ∧ Below w.heap.size w wr
def LbEnd (w : World) (N : Nat) (ov : Value) (wr : World) : Prop := Ow wr w.heap.size ov (dg Wd N) ∧ Below w.heap.size w wr

end
end Go.Proofs.Ytiikmjnnlckiiaa
namespace Go.Proofs.Ytiikmjnnlckiiaa
section
set_option maxRecDepth 100000
open Go.RowKit
set_option linter.unusedVariables false

theorem Hb_pow_k (t : Nat) : Hb ^ t = 2 ^ (32 * t) := by rw [show Hb = 2 ^ 32 by decide, ← Nat.pow_mul]
theorem bl_topH {N t : Nat} (hl : (dg Hb N).length = t + 1) (ht : t < (dg Hb N).length) : bl N = 32 * t + bl (dg Hb N)[t].toNat := by
  have e1 := vl_split Hb (dg Hb N) t (by omega)
  rw [vl_drop_step Hb _ t ht, List.drop_eq_nil_of_le (by omega), vl_dg Hb2, vl, Nat.mul_zero, Nat.add_zero] at e1
  have l1 := vl_lt ((Lim_dg Hb2 N).take t)
  rw [List.length_take, Nat.min_eq_left (by omega)] at l1
  have b1 := (Lim_dg Hb2 N).get ht
  have hy := dg_last Hb2 (n := N) (by omega)
  have h7 : (dg Hb N).length - 1 = t := by omega
  simp only [h7] at hy
  generalize (dg Hb N)[t] = y at *
  have hyp : 0 < bl y.toNat := bl_ge (k := 0) (by omega)
  have u1 := lt_bl y.toNat
  have u2 := le_of_bl (n := y.toNat) (k := bl y.toNat - 1) (by omega)
  generalize y.toNat = z at *
  generalize bl z = β at *
  refine bl_eq ?_ (fun _ => ?_)
  · rw [Nat.pow_add, ← Hb_pow_k]
    have h1 : Hb ^ t * (z + 1) ≤ Hb ^ t * 2 ^ β := Nat.mul_le_mul_left _ u1
    rw [Nat.mul_add, Nat.mul_one] at h1
    omega
  · rw [show 32 * t + β - 1 = 32 * t + (β - 1) by omega, Nat.pow_add, ← Hb_pow_k]
    have h1 : Hb ^ t * 2 ^ (β - 1) ≤ Hb ^ t * z := Nat.mul_le_mul_left _ u2
    omega
theorem limb_bitsH {l : List Int} (hl : Lim Hb l) {q r e : Nat} (hq : q < l.length) (hr : r + e ≤ 32) : l[q].toNat / 2 ^ r % 2 ^ e = vl Hb l / 2 ^ (32 * q + r) % 2 ^ e := by
  have e1 := vl_split Hb l q (by omega)
  rw [vl_drop_step Hb l q hq] at e1
  have l1 := vl_lt (hl.take q)
  rw [List.length_take, Nat.min_eq_left (by omega)] at l1
  generalize l[q].toNat = x at *
  generalize vl Hb (l.drop (q + 1)) = m at *
  have e2 : vl Hb l / Hb ^ q = x + Hb * m := by
    rw [e1, Nat.add_mul_div_left _ _ (Nat.pow_pos Hb0), Nat.div_eq_of_lt l1, Nat.zero_add]
  rw [Nat.pow_add, ← Nat.div_div_eq_div_mul, ← Hb_pow_k, e2]
  have e3 : Hb * m = 2 ^ r * (2 ^ (32 - r) * m) := by
    rw [← Nat.mul_assoc, ← Nat.pow_add, show r + (32 - r) = 32 by omega]; rfl
  have e4 : 2 ^ (32 - r) * m = 2 ^ e * (2 ^ (32 - r - e) * m) := by
    rw [← Nat.mul_assoc, ← Nat.pow_add, show e + (32 - r - e) = 32 - r by omega]
  rw [e3, Nat.add_mul_div_left _ _ (Nat.two_pow_pos r), e4, Nat.add_mul_mod_self_left]
theorem half_step {x : Int} (h0 : 0 < x) (h1 : x < 18446744073709551616) : IntKind.u64.wrap (x.tdiv 2) = x / 2 ∧ bl (x / 2).toNat + 1 = bl x.toNat := by
  constructor
  · rw [Int.tdiv_eq_ediv_of_nonneg (show 0 ≤ x by omega), wrap_u64]; omega
  · have := bl_div (n := x.toNat) (s := 1)
    have e : (x / 2).toNat = x.toNat / 2 ^ 1 := by omega
    rw [e]
    by_cases h2 : 2 ≤ x.toNat
    · exact this (by rw [Nat.pow_one]; exact h2)
    · have hx : x.toNat = 1 := by omega
      rw [hx, Nat.pow_one, bl_one]
      exact congrArg (· + 1) bl_zero

end
end Go.Proofs.Ytiikmjnnlckiiaa
namespace Go.Proofs.Ytiikmjnnlckiiaa
section
set_option maxRecDepth 100000
open Go.RowKit
set_option linter.unusedVariables false

theorem run_append_zero {w : World} {base : Nat} {v : Value} {l : List Int} (h : Ow w base v l) (ty : TypeId) (c : Nat) :
    (Builtin.append_ #[23, 23] ty #[v, .slice none 0 c]).run Try.prog w = .ok v w := by
  obtain ⟨i0, hi, hz0, hz1, hz2⟩ := info_parts Try.info64
  rcases h.2 with ⟨h1, h2⟩ | ⟨g, cap, cur, hv, _, _, hnc, _⟩
  · rw [h1]
    simp [Builtin.append_, run_underlying Try.underlying23, sizeOf, typeInfo, hi, Builtin.lenOf, Builtin.firstCells]
  · rw [hv]
    simp [Builtin.append_, run_underlying Try.underlying23, sizeOf, typeInfo, hi, Builtin.lenOf, Builtin.firstCells, hnc, storeCells]

theorem wp_all64 {W : World} {ops : Array Oper} {rest : List Oper} {o : Oper} {a : Act} {Q : Exit → Act → World → Prop} (hg : o.guard = none) (s x : Operand)
    (hop : o.op = .call { callee := .builtin .append, args := #[s, x], argTypes := #[23, 23] }) (base : Nat) (v : Value) (l : List Int) (hs : a.eval s = v) (hown : Ow W base v l)
    (A : Option Addr) (n c B : Nat) (m : List Int) (hx : a.eval x = .slice A n c) (hrd : Rd W B A n c m) (hlen : l.length ≤ 1099511627776) (hn : n ≤ 1099511627776) (hbase : base ≤ W.heap.size)
    (hK : ∀ v' w', Ow w' base v' (l ++ m) → Below base W w' → wpList Try.prog ops Q rest (a.put o.dst v') w') : wpList Try.prog ops Q (o :: rest) a W := by
  have hml := hrd.len
  rcases A with _ | ad
  · have h0 : n = 0 := by
      rcases Nat.eq_zero_or_pos n with h0 | h0
      · exact h0
      · obtain ⟨_, _, h, _⟩ := hrd.at_ h0; cases h
    subst h0
    have : m = [] := List.eq_nil_of_length_eq_zero hml
    subst this
    refine wpList_plain hg fun K hK' => ?_
    have hrun := run_append_zero hown o.type c
    unfold Oper.wp
    simp [execOp, hop, resolve, invoke, builtin, hs, hx, hrun, Result.andThen]
    exact hK' _ _ (hK v W (by simpa using hown) (Below.refl _ _))
  · obtain ⟨i0, hi, hz0, hz1, hz2⟩ := info_parts Try.info64
    refine wpList_append_own W hg s x 23 hop base 43 i0 (.int .u64 0) 1 8 Try.underlying23 hi hz0 hz1 hz2 rfl (by decide) v _ _ hs hown ad n c (m.map (Value.int .u64)) hx (by simp [hml]) ?_ (ints_oneCell _ _) (by unfold maxLen; omega) (by omega) hbase ?_
    · intro j u hj
      rw [List.getElem?_map] at hj
      by_cases hjl : j < m.length
      · obtain ⟨b, of, e, hb, hc⟩ := hrd.at_ (by omega)
        injection e with e
        subst e
        rw [List.getElem?_eq_getElem hjl] at hj
        simp at hj
        subst hj
        rw [← hc j hjl]
        unfold Addr.add
        by_cases hj0 : j = 0
        · subst hj0; simp
        · rw [if_neg hj0]
      · rw [List.getElem?_eq_none (by omega)] at hj
        simp at hj
    · intro v' w' h1 h2 _
      refine hK v' w' ?_ ⟨h2.os, h2.tape, h2.output, h2.size, fun k hk => h2.block k (by omega) (fun e => by have := (World.ownsRow.lt hown k e.symm).1; omega)⟩
      unfold Ow
      rw [List.length_append, hml, List.map_append]
      exact h1
theorem Ow.empty (w : World) (base : Nat) (hb : base ≤ w.heap.size) : Ow (w.alloc (.cells #[] 43)) base (.slice (some ⟨w.heap.size, 0, none⟩) 0 0) [] :=
  ⟨by simp, .inr ⟨w.heap.size, 0, #[], rfl, hb, heap_alloc_new w _, Nat.le_refl _, by unfold maxLen; omega, rfl, rfl⟩⟩
end
end Go.Proofs.Ytiikmjnnlckiiaa
namespace Go.Proofs.Ytiikmjnnlckiiaa
section
set_option maxRecDepth 100000
open Go.RowKit
set_option linter.unusedVariables false

theorem ZOut.mk {w w' : World} {b b' : Bool} {A : Option Addr} {n c N k : Nat} (h : Rd w' w'.heap.size A n c (dg Wd N)) (hs : Sm N k) (he : b' = ngB (zi b N)) (hb : Below w.heap.size w w') : OutZ w (zi b N) k (.returned (.agg #[.bool b', .slice A n c])) w' :=
  ⟨A, n, c, by rw [he], ⟨by rw [zi_abs]; exact h, h.small hs⟩, hb⟩
theorem Zn.same {w : World} {A A2 : Option Addr} {n c n2 c2 k k2 : Nat} {X : Int} (h : Zn w A n c X k) (h2 : Zn w A2 n2 c2 X k2) : True := trivial
theorem of_neg {m : Int} (h0 : 0 < m) (h1 : m ≤ 9223372036854775808) : IntKind.i64.wrap (-m + 1) = -m + 1 ∧ IntKind.i64.wrap (-(-m + 1)) = m - 1 ∧ IntKind.u64.wrap (m - 1) = m - 1 ∧ IntKind.u64.wrap (m - 1 + 1) = m := by
  refine ⟨i64_keep (by omega) (by omega), ?_, ?_, ?_⟩
  · rw [i64_keep (by omega) (by omega)]; omega
  · rw [wrap_u64]; omega
  · rw [wrap_u64]; omega
end
end Go.Proofs.Ytiikmjnnlckiiaa
namespace Go.Proofs.Ytiikmjnnlckiiaa
section
set_option maxRecDepth 100000
open Go.RowKit
set_option linter.unusedVariables false

/-- What a function of digits hands back, with noughts on top perhaps. -/
def OutL (w : World) (N : Nat) (e : Ending) (w' : World) : Prop := ∃ A n c L, e = .returned (.slice A n c) ∧ Rd w' w'.heap.size A n c L ∧ Lim Hb L ∧ vl Hb L = N ∧ n ≤ 1099511627776 ∧ Below w.heap.size w w'

def AhInv (la lb : List Int) (k : Nat) (L : List Int) (c : Int) : Prop := L.length = k ∧ Lim Hb L ∧ Cr c ∧ vl Hb L + Hb ^ k * c.toNat = vl Hb (la.take k) + vl Hb (lb.take k)
theorem take_step {l : List Int} (k : Nat) : vl Hb (l.take (k + 1)) = vl Hb (l.take k) + Hb ^ k * (l.getD k 0).toNat := by
  by_cases hk : k < l.length
  · rw [vl_take_succ Hb l k hk]; simp [List.getD, hk]
  · rw [List.take_of_length_le (by omega), List.take_of_length_le (by omega)]
    simp [List.getD, List.getElem?_eq_none (show l.length ≤ k by omega)]
theorem AhInv.step {la lb L : List Int} {k : Nat} {c S : Int} (h : AhInv la lb k L c) (hla : Lim Hb la) (hlb : Lim Hb lb) (hS : c + la.getD k 0 + lb.getD k 0 = S) :
    AhInv la lb (k + 1) (L ++ [S % 4294967296]) (S / 4294967296) ∧ 0 ≤ S ∧ S < 8589934592 := by
  obtain ⟨h1, h2, h3, h4⟩ := h
  have bx := dig_lt (hla.getD Hb0 k)
  have by_ := dig_lt (hlb.getD Hb0 k)
  have e1 := take_step (l := la) k
  have e2 := take_step (l := lb) k
  generalize la.getD k 0 = x at *
  generalize lb.getD k 0 = y at *
  have hc : c = 0 ∨ c = 1 := h3
  refine ⟨⟨by simp [h1], Lim_append.2 ⟨h2, fun z hz => by simp at hz; subst hz; rw [Hb_eq]; omega⟩, by unfold Cr; omega, ?_⟩, by omega, by omega⟩
  rw [vl_append, h1, e1, e2, Nat.pow_succ]
  have e3 : vl Hb [S % 4294967296] = (S % 4294967296).toNat := by simp [vl]
  have e4 : (S % 4294967296).toNat + Hb * (S / 4294967296).toNat = c.toNat + x.toNat + y.toNat := by rw [Hb_eq]; omega
  have e5 : Hb ^ k * ((S % 4294967296).toNat + Hb * (S / 4294967296).toNat) = Hb ^ k * (c.toNat + x.toNat + y.toNat) := by rw [e4]
  rw [e3, Nat.mul_assoc]
  simp only [Nat.mul_add] at e5
  omega
theorem getD_at {l : List Int} {k : Nat} (hk : k < l.length) : l.getD k 0 = l[k] := by simp [List.getD, hk]
theorem getD_out {l : List Int} {k : Nat} (hk : l.length ≤ k) : l.getD k 0 = 0 := by simp [List.getD, List.getElem?_eq_none hk]
theorem rem32 {S : Int} (h0 : 0 ≤ S) (h1 : S < 18446744073709551616) : S.tmod 4294967296 = S % 4294967296 ∧ IntKind.u64.wrap (S.tdiv 4294967296) = S / 4294967296 := by
  refine ⟨Int.tmod_eq_emod_of_nonneg h0, ?_⟩
  rw [Int.tdiv_eq_ediv_of_nonneg h0, wrap_u64]
  omega
def AhRel (w : World) (m : Nat) (la lb : List Int) (ov cv : Value) (k : Nat) (wr : World) : Prop :=
  ∃ L c, cv = .int .u64 c ∧ AhInv la lb k L c ∧ (k = m + 1 → c = 0) ∧ Ow wr w.heap.size ov L ∧ Below w.heap.size w wr

def ShInvD (la lb : List Int) (k : Nat) (L : List Int) (c : Int) : Prop := L.length = k ∧ Lim Hb L ∧ Cr c ∧ vl Hb L + vl Hb (lb.take k) = vl Hb (la.take k) + Hb ^ k * c.toNat
theorem ShInvD.step {la lb L : List Int} {k : Nat} {c t : Int} (h : ShInvD la lb k L c) (hla : Lim Hb la) (hlb : Lim Hb lb) (ht : c + lb.getD k 0 = t) :
    (la.getD k 0 < t → ShInvD la lb (k + 1) (L ++ [la.getD k 0 + 4294967296 - t]) 1) ∧ (¬ la.getD k 0 < t → ShInvD la lb (k + 1) (L ++ [la.getD k 0 - t]) 0) := by
  obtain ⟨h1, h2, h3, h4⟩ := h
  have bx := dig_lt (hla.getD Hb0 k)
  have by_ := dig_lt (hlb.getD Hb0 k)
  have e1 := take_step (l := la) k
  have e2 := take_step (l := lb) k
  generalize la.getD k 0 = x at *
  generalize lb.getD k 0 = y at *
  have hc : c = 0 ∨ c = 1 := h3
  constructor
  · intro hlt
    refine ⟨by simp [h1], Lim_append.2 ⟨h2, fun z hz => by simp at hz; subst hz; rw [Hb_eq]; omega⟩, .inr rfl, ?_⟩
    rw [vl_append, h1, e1, e2, Nat.pow_succ]
    have e3 : vl Hb [x + 4294967296 - t] = (x + 4294967296 - t).toNat := by simp [vl]
    have e4 : (x + 4294967296 - t).toNat + y.toNat + c.toNat = x.toNat + Hb * (1 : Int).toNat := by rw [Hb_eq]; omega
    have e5 : Hb ^ k * ((x + 4294967296 - t).toNat + y.toNat + c.toNat) = Hb ^ k * (x.toNat + Hb * (1 : Int).toNat) := by rw [e4]
    rw [e3, Nat.mul_assoc]
    simp only [Nat.mul_add] at e5
    omega
  · intro hlt
    refine ⟨by simp [h1], Lim_append.2 ⟨h2, fun z hz => by simp at hz; subst hz; rw [Hb_eq]; omega⟩, .inl rfl, ?_⟩
    rw [vl_append, h1, e1, e2, Nat.pow_succ]
    have e3 : vl Hb [x - t] = (x - t).toNat := by simp [vl]
    have e4 : (x - t).toNat + y.toNat + c.toNat = x.toNat + Hb * (0 : Int).toNat := by rw [Hb_eq]; omega
    have e5 : Hb ^ k * ((x - t).toNat + y.toNat + c.toNat) = Hb ^ k * (x.toNat + Hb * (0 : Int).toNat) := by rw [e4]
    rw [e3, Nat.mul_assoc]
    simp only [Nat.mul_add] at e5
    omega
def ShRelD (w : World) (la lb : List Int) (ov cv : Value) (k : Nat) (wr : World) : Prop := ∃ L c, cv = .int .u64 c ∧ ShInvD la lb k L c ∧ Ow wr w.heap.size ov L ∧ Below w.heap.size w wr

end
end Go.Proofs.Ytiikmjnnlckiiaa
namespace Go.Proofs.Ytiikmjnnlckiiaa
section
set_option maxRecDepth 100000
open Go.RowKit
set_option linter.unusedVariables false

def MhInv (T : Nat) (la lb : List Int) (i : Nat) (L : List Int) : Prop := L.length = T ∧ Lim Hb L ∧ vl Hb L = vl Hb (la.take i) * vl Hb lb
/-- The inner loop: k digits of lb are done. -/
def MkInv (T : Nat) (lb L0 : List Int) (i : Nat) (x : Int) (k : Nat) (L : List Int) (c : Int) : Prop :=
  L.length = T ∧ Lim Hb L ∧ 0 ≤ c ∧ c < 4294967296 ∧ L[i + lb.length]? = L0[i + lb.length]? ∧ vl Hb L + Hb ^ (i + k) * c.toNat = vl Hb L0 + Hb ^ i * (x.toNat * vl Hb (lb.take k))
theorem MkInv.step {T : Nat} {lb L0 L : List Int} {i k : Nat} {x c S : Int} (h : MkInv T lb L0 i x k L c) (hx : 0 ≤ x ∧ x < 4294967296) (hlb : Lim Hb lb) (hk : k < lb.length) (hL : i + k < L.length)
    (hS : L[i + k] + x * lb[k] + c = S) : MkInv T lb L0 i x (k + 1) (L.set (i + k) (S % 4294967296)) (S / 4294967296) ∧ 0 ≤ S ∧ S < 18446744073709551616 := by
  obtain ⟨h1, h2, h3, h3', h4, h5⟩ := h
  have bz := dig_lt (h2.get hL)
  have by_ := dig_lt (hlb.get hk)
  have hs := vl_set Hb L (i + k) hL (S % 4294967296)
  have ht := vl_take_succ Hb lb k hk
  generalize L[i + k] = z at *
  generalize lb[k] = y at *
  have hp := halves_mul x y ⟨hx.1, by omega⟩ ⟨by_.1, by omega⟩
  have hxy : (x * y).toNat = x.toNat * y.toNat := Int.toNat_mul hx.1 by_.1
  generalize x * y = p at *
  refine ⟨⟨by simpa using h1, h2.set _ (by rw [Hb_eq]; omega), by omega, by omega, by rw [List.getElem?_set_ne (by omega)]; exact h4, ?_⟩, by omega, by omega⟩
  have e4 : (S % 4294967296).toNat + Hb * (S / 4294967296).toNat = z.toNat + p.toNat + c.toNat := by rw [Hb_eq]; omega
  have e5 : Hb ^ (i + k) * ((S % 4294967296).toNat + Hb * (S / 4294967296).toNat) = Hb ^ (i + k) * (z.toNat + p.toNat + c.toNat) := by rw [e4]
  simp only [Nat.mul_add] at e5
  rw [ht, Nat.mul_add x.toNat, Nat.mul_add (Hb ^ i), show i + (k + 1) = i + k + 1 by omega, Nat.pow_succ, Nat.mul_assoc]
  have e6 : Hb ^ i * (x.toNat * (Hb ^ k * y.toNat)) = Hb ^ (i + k) * p.toNat := by
    rw [hxy, Nat.pow_add, Nat.mul_left_comm x.toNat, ← Nat.mul_assoc (Hb ^ i)]
  rw [e6]
  omega
theorem zero_atH {l : List Int} (h : Lim Hb l) {j : Nat} (hj : j < l.length) (hv : vl Hb l < Hb ^ j) : l[j] = 0 := by
  have h1 := vl_split Hb l j (by omega)
  rw [vl_drop_step Hb l j hj] at h1
  have h2 := h.get hj
  rcases Nat.eq_zero_or_pos l[j].toNat with h0 | h0
  · omega
  · exfalso
    have : Hb ^ j * 1 ≤ Hb ^ j * (l[j].toNat + Hb * vl Hb (l.drop (j + 1))) := Nat.mul_le_mul_left _ (by omega)
    rw [Nat.mul_one] at this
    generalize Hb ^ j * (l[j].toNat + Hb * vl Hb (l.drop (j + 1))) = r at *
    omega
theorem MhInv.zero {T : Nat} {la lb L : List Int} {i : Nat} (h : MhInv T la lb i L) (hla : Lim Hb la) (hlb : Lim Hb lb) (hi : i ≤ la.length) (hj : i + lb.length < L.length) : L[i + lb.length] = 0 := by
  refine zero_atH h.2.1 hj ?_
  rw [h.2.2, Nat.pow_add]
  have b2 := vl_lt (hla.take i)
  rw [List.length_take, Nat.min_eq_left hi] at b2
  exact Nat.mul_lt_mul'' b2 (vl_lt hlb)
theorem MkInv.last {T : Nat} {la lb L0 L : List Int} {i : Nat} {x c : Int} (h0 : MhInv T la lb i L0) (hla : Lim Hb la) (hlb : Lim Hb lb) (hi : i < la.length) (hx : la[i] = x) (h : MkInv T lb L0 i x lb.length L c) (hj : i + lb.length < L.length) :
    L[i + lb.length] = 0 ∧ MhInv T la lb (i + 1) (L.set (i + lb.length) c) := by
  have hlen : L0.length = L.length := by rw [h0.1, h.1]
  have hz0 := h0.zero hla hlb (by omega) (by omega)
  obtain ⟨h1, h2, h3, h3', h4, h5⟩ := h
  have hz : L[i + lb.length] = 0 := by
    rw [List.getElem?_eq_getElem hj, List.getElem?_eq_getElem (by omega), hz0] at h4
    injection h4
  refine ⟨hz, by simpa using h1, h2.set _ (by rw [Hb_eq]; omega), ?_⟩
  have hs := vl_set Hb L (i + lb.length) hj c
  rw [hz, show (0 : Int).toNat = 0 from rfl, Nat.mul_zero, Nat.add_zero] at hs
  rw [List.take_of_length_le (Nat.le_refl _)] at h5
  rw [hs, h5, h0.2.2, vl_take_succ Hb la i hi, hx, Nat.add_mul]
  rw [Nat.mul_assoc]
theorem Sm.lenH {N k : Nat} (h : Sm N k) : (dg Hb N).length ≤ 2 * k := dg_len_le Hb2 (by rw [Hb_pow]; exact h)
def MhRel (w : World) (g T : Nat) (la lb : List Int) (i : Nat) (wr : World) : Prop := ∃ L, MhInv T la lb i L ∧ Bk wr g L ∧ Below w.heap.size w wr
def MkRel (w : World) (g T : Nat) (lb L0 : List Int) (i : Nat) (x : Int) (cv : Value) (k : Nat) (wr : World) : Prop := ∃ L c, cv = .int .u64 c ∧ MkInv T lb L0 i x k L c ∧ Bk wr g L ∧ Below w.heap.size w wr

end
end Go.Proofs.Ytiikmjnnlckiiaa
namespace Go.Proofs.Ytiikmjnnlckiiaa
section
set_option maxRecDepth 100000
open Go.RowKit
set_option linter.unusedVariables false

theorem addn_same {X Y : Int} (h : ngB X = ngB Y) : X + Y = zi (ngB X) (X.natAbs + Y.natAbs) := by
  unfold ngB zi at *; by_cases hx : X < 0 <;> by_cases hy : Y < 0 <;> simp [hx, hy] at h ⊢ <;> omega
theorem addn_sub {X Y : Int} (h : ngB X ≠ ngB Y) (hle : Y.natAbs ≤ X.natAbs) : X + Y = zi (ngB X) (X.natAbs - Y.natAbs) := by
  unfold ngB zi at *; by_cases hx : X < 0 <;> by_cases hy : Y < 0 <;> simp [hx, hy] at h ⊢ <;> omega
theorem addn_sub' {X Y : Int} (h : ngB X ≠ ngB Y) (hlt : X.natAbs < Y.natAbs) : X + Y = zi (ngB Y) (Y.natAbs - X.natAbs) := by
  unfold ngB zi at *; by_cases hx : X < 0 <;> by_cases hy : Y < 0 <;> simp [hx, hy] at h ⊢ <;> omega

end
end Go.Proofs.Ytiikmjnnlckiiaa
namespace Go.Proofs.Ytiikmjnnlckiiaa
section
set_option maxRecDepth 100000
open Go.RowKit
set_option linter.unusedVariables false

def TmInv (d : List Int) (by_ : Int) (k : Nat) (L : List Int) (c : Int) : Prop := L.length = k ∧ Lim Hb L ∧ 0 ≤ c ∧ c < 4294967296 ∧ vl Hb L + Hb ^ k * c.toNat = vl Hb (d.take k) * by_.toNat
theorem TmInv.step {d L : List Int} {by_ : Int} {k : Nat} {c S : Int} (h : TmInv d by_ k L c) (hd : Lim Hb d) (hb : 0 ≤ by_ ∧ by_ < 4294967296) (hS : c + d.getD k 0 * by_ = S) :
    TmInv d by_ (k + 1) (L ++ [S % 4294967296]) (S / 4294967296) ∧ 0 ≤ S ∧ S < 18446744073709551616 := by
  obtain ⟨h1, h2, h3, h3', h4⟩ := h
  have bx := dig_lt (hd.getD Hb0 k)
  have e1 := take_step (l := d) k
  generalize d.getD k 0 = x at *
  have hp := halves_mul x by_ ⟨bx.1, by omega⟩ ⟨hb.1, by omega⟩
  have hxy : (x * by_).toNat = x.toNat * by_.toNat := Int.toNat_mul bx.1 hb.1
  generalize x * by_ = p at *
  refine ⟨⟨by simp [h1], Lim_append.2 ⟨h2, fun z hz => by simp at hz; subst hz; rw [Hb_eq]; omega⟩, by omega, by omega, ?_⟩, by omega, by omega⟩
  rw [vl_append, h1, e1, Nat.pow_succ, Nat.add_mul, ← h4]
  have e3 : vl Hb [S % 4294967296] = (S % 4294967296).toNat := by simp [vl]
  have e4 : (S % 4294967296).toNat + Hb * (S / 4294967296).toNat = c.toNat + p.toNat := by rw [Hb_eq]; omega
  have e5 : Hb ^ k * ((S % 4294967296).toNat + Hb * (S / 4294967296).toNat) = Hb ^ k * (c.toNat + p.toNat) := by rw [e4]
  simp only [Nat.mul_add] at e5
  rw [e3, Nat.mul_assoc (Hb ^ k) Hb, Nat.mul_assoc (Hb ^ k) x.toNat, ← hxy]
  omega
def TmRel (w : World) (n : Nat) (d : List Int) (by_ : Int) (ov cv : Value) (k : Nat) (wr : World) : Prop :=
  ∃ L c, cv = .int .u64 c ∧ TmInv d by_ k L c ∧ (k = n + 1 → c = 0) ∧ Ow wr w.heap.size ov L ∧ Below w.heap.size w wr

theorem Bk.ow {w : World} {g n base : Nat} {l : List Int} (h : Bk w g l) (hn : l.length = n) (hb : base ≤ g) (hm : n ≤ maxLen) : Ow w base (.slice (some ⟨g, 0, none⟩) n n) l := by
  subst hn
  exact ⟨by simp, .inr ⟨g, l.length, (l.map (Value.int .u64)).toArray, rfl, hb, h, Nat.le_refl _, hm, by simp, by simp [List.take_of_length_le]⟩⟩
theorem shlH_val {N q r s : Nat} (hs : s = 32 * q + r) : vl Hb (List.replicate q 0 ++ dg Hb (N * 2 ^ r)) = N * 2 ^ s := by
  rw [vl_append, vl_replicate, vl_dg Hb2, List.length_replicate, hs, Nat.pow_add, ← Hb_pow_k, Nat.zero_add, Nat.mul_left_comm]
theorem pow2_lt {r : Nat} (hr : r ≤ 31) : (0 : Int) ≤ 2 ^ r ∧ (2 : Int) ^ r < 4294967296 ∧ ((2 : Int) ^ r).toNat = 2 ^ r := by
  have h1 : 2 ^ r ≤ 2 ^ 31 := Nat.pow_le_pow_right (by omega) hr
  have e : ((2 : Int) ^ r) = ((2 ^ r : Nat) : Int) := by simp
  rw [e, Int.toNat_natCast]
  have h2 : (2 : Nat) ^ 31 = 2147483648 := by decide
  rw [h2] at h1
  generalize 2 ^ r = y at *
  omega

/-- The shift downwards: the digits from j on are done. -/
def SrInv (D : List Int) (r j : Nat) (L : List Int) (y : Int) : Prop :=
  L.length = D.length ∧ Lim Hb L ∧ L.take j = D.take j ∧ vl Hb (L.drop j) = vl Hb (D.drop j) / 2 ^ r ∧ y = ((vl Hb (D.drop j) % 2 ^ r : Nat) : Int)
theorem SrInv.step {D L : List Int} {r j : Nat} {y X : Int} (hr : r ≤ 31) (hD : Lim Hb D) (h : SrInv D r (j + 1) L y) (hj : j < L.length) (hX : y * 4294967296 + L[j] = X) :
    SrInv D r j (L.set j (X / 2 ^ r)) (X % 2 ^ r) ∧ 0 ≤ y ∧ y < 4294967296 ∧ 0 ≤ X ∧ X < 18446744073709551616 := by
  obtain ⟨h1, h2, h3, h4, rfl⟩ := h
  have hjD : j < D.length := by omega
  have hLj : L[j] = D[j] := by
    have e1 : (L.take (j + 1))[j]'(by simp; omega) = L[j] := List.getElem_take
    have e2 : (D.take (j + 1))[j]'(by simp; omega) = D[j] := List.getElem_take
    rw [← e1, ← e2]; simp only [h3]
  rw [hLj] at hX
  have hx := dig_lt (hD.get hjD)
  have hq := vl_drop_step Hb D j hjD
  generalize D[j] = x at *
  generalize vl Hb (D.drop (j + 1)) = Q at *
  obtain ⟨x, rfl⟩ := Int.eq_ofNat_of_zero_le hx.1
  rw [Int.toNat_natCast] at hq
  have h2r : 2 ^ r ≤ 2 ^ 31 := Nat.pow_le_pow_right (by omega) hr
  have h31 : (2 : Nat) ^ 31 = 2147483648 := by decide
  have hrp := Nat.two_pow_pos r
  have hm := Nat.mod_lt Q hrp
  have hXn : X = ((Q % 2 ^ r * Hb + x : Nat) : Int) := by rw [Int.natCast_add, Int.natCast_mul, Hb_eq, ← hX]; rfl
  have e2 : ((2 : Int) ^ r) = ((2 ^ r : Nat) : Int) := by simp
  have hxb : Q % 2 ^ r * Hb + x < 2 ^ r * Hb := by
    have : (Q % 2 ^ r + 1) * Hb ≤ 2 ^ r * Hb := Nat.mul_le_mul_right _ hm
    rw [Nat.add_mul, Nat.one_mul] at this
    have h5 : x < Hb := by rw [Hb_eq]; omega
    omega
  rw [hXn, e2, ← Int.natCast_ediv, ← Int.natCast_emod]
  have hdq := Nat.mod_add_div Q (2 ^ r)
  have htot : x + Hb * Q = Q % 2 ^ r * Hb + x + 2 ^ r * (Hb * (Q / 2 ^ r)) := by
    have e5 : Hb * Q = Hb * (Q % 2 ^ r) + Hb * (2 ^ r * (Q / 2 ^ r)) := by rw [← Nat.mul_add, hdq]
    rw [e5, Nat.mul_comm Hb (Q % 2 ^ r), Nat.mul_left_comm Hb (2 ^ r)]
    omega
  refine ⟨⟨by simpa using h1, h2.set j ⟨Int.natCast_nonneg _, Int.ofNat_lt.2 ?_⟩, ?_, ?_, ?_⟩, Int.natCast_nonneg _, ?_, Int.natCast_nonneg _, ?_⟩
  · exact (Nat.div_lt_iff_lt_mul hrp).2 (by rw [Nat.mul_comm Hb]; exact hxb)
  · rw [List.take_set_of_le (Nat.le_refl j)]
    have := congrArg (List.take j) h3
    rw [List.take_take, List.take_take, Nat.min_eq_left (by omega)] at this
    exact this
  · rw [vl_drop_step Hb _ j (by simpa using hj), List.getElem_set_self, Int.toNat_natCast, List.drop_set_of_lt (by omega), h4, hq, htot, Nat.add_mul_div_left _ _ hrp]
  · rw [hq, htot, Nat.add_mul_mod_self_left]
  · have : Q % 2 ^ r < 4294967296 := by omega
    omega
  · have : 2 ^ r * Hb ≤ 2147483648 * Hb := Nat.mul_le_mul_right _ (by omega)
    have h8 : 2147483648 * Hb = 9223372036854775808 := by rw [Hb_eq]
    rw [h8] at this
    generalize Q % 2 ^ r * Hb + x = z at *
    omega
theorem srH_val {N q r s : Nat} (hs : s = 32 * q + r) (hq : q ≤ (dg Hb N).length) : vl Hb ((dg Hb N).drop q) / 2 ^ r = N / 2 ^ s := by
  have e1 := vl_split Hb (dg Hb N) q hq
  rw [vl_dg Hb2] at e1
  have l1 := vl_lt ((Lim_dg Hb2 N).take q)
  rw [List.length_take, Nat.min_eq_left hq] at l1
  have e2 : N / Hb ^ q = vl Hb ((dg Hb N).drop q) := by
    rw [e1, Nat.add_mul_div_left _ _ (Nat.pow_pos Hb0), Nat.div_eq_of_lt l1, Nat.zero_add]
    rw [← e1]
  rw [hs, Nat.pow_add, ← Nat.div_div_eq_div_mul, ← Hb_pow_k, e2]
end
end Go.Proofs.Ytiikmjnnlckiiaa
namespace Go.Proofs.Ytiikmjnnlckiiaa
section
set_option maxRecDepth 100000
open Go.RowKit
set_option linter.unusedVariables false

theorem Ow.set {w : World} {base g m cap : Nat} {l : List Int} (h : Ow w base (.slice (some ⟨g, 0, none⟩) m cap) l) (hm : l.length = m) (j : Nat) (x : Int) :
    Ow (w.setCell ⟨g, j, none⟩ (.int .u64 x)) base (.slice (some ⟨g, 0, none⟩) m cap) (l.set j x) ∧ Below base w (w.setCell ⟨g, j, none⟩ (.int .u64 x)) := by
  subst hm
  have h1 := World.ownsRow.stored h j (.int .u64 x)
  have hb := (World.ownsRow.lt h g rfl).1
  refine ⟨?_, (Below.refl _ _).setCell hb _⟩
  unfold Ow
  rw [List.length_set, List.map_set]
  exact h1.1
theorem Ow.cell {w : World} {base g m cap : Nat} {l : List Int} (h : Ow w base (.slice (some ⟨g, 0, none⟩) m cap) l) (hm : l.length = m) {j : Nat} (hj : j < l.length) : w.cell? ⟨g, j, none⟩ = some (.int .u64 l[j]) ∧ w.frozen? ⟨g, j, none⟩ = false := by
  subst hm
  refine ⟨?_, World.ownsRow.frozenAt h j⟩
  rw [World.ownsRow.cellAt h j (by omega)]
  simp [hj]
theorem Ow.form' {w : World} {base m : Nat} {v : Value} {l : List Int} (h : Ow w base v l) (hm : l.length = m) (hp : 0 < m) : ∃ g cap, v = .slice (some ⟨g, 0, none⟩) m cap ∧ base ≤ g ∧ g < w.heap.size := by
  subst hm
  exact World.ownsRow.form h hp
def SrRel (w : World) (D : List Int) (r : Nat) (sv yv : Value) (j : Nat) (wr : World) : Prop := ∃ L y, yv = .int .u64 y ∧ SrInv D r j L y ∧ Ow wr w.heap.size sv L ∧ Below w.heap.size w wr

end
end Go.Proofs.Ytiikmjnnlckiiaa
namespace Go.Proofs.Ytiikmjnnlckiiaa
section
set_option maxRecDepth 100000
open Go.RowKit
set_option linter.unusedVariables false

theorem sgnI_m {X : Int} (h : X < 0) : sgnI X = -1 := by unfold sgnI; rw [if_pos h]
theorem sgnI_z {X : Int} (h : X = 0) : sgnI X = 0 := by unfold sgnI; rw [if_neg (by omega), if_pos h]
theorem sgnI_p {X : Int} (h : 0 < X) : sgnI X = 1 := by unfold sgnI; rw [if_neg (by omega), if_neg (by omega)]
theorem ngB_pos {X : Int} (h : 0 < X) : ngB X = false := by unfold ngB; simp; omega
theorem ngB_neg {X : Int} (h : X < 0) : ngB X = true := by unfold ngB; simpa using h
theorem zn_len {w : World} {A : Option Addr} {n c k : Nat} {X : Int} (h : Zn w A n c X k) : (X = 0 → n = 0) ∧ (X ≠ 0 → 0 < n) :=
  ⟨fun h0 => rd_zero h.1 (by omega), fun h0 => rd_pos h.1 (by omega)⟩

theorem shr_up {N s : Nat} (h : 0 < N) : (-(N : Int)) / 2 ^ s = zi true ((N + (1 * 2 ^ s - 1)) / 2 ^ s) := by
  rw [shr_neg h]
  congr 1
  have hp : 0 < 2 ^ s := Nat.two_pow_pos s
  generalize 2 ^ s = d at *
  rw [show N + (1 * d - 1) = (N - 1) + d by omega, Nat.add_div_right _ hp]
end
end Go.Proofs.Ytiikmjnnlckiiaa
