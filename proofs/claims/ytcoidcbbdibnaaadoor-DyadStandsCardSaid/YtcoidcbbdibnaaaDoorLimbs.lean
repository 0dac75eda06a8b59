/-
  The document's answer: append of a limb; Limbs, Norm, CmpDigits, Cmp.
-/
import Derived.Test.YtcoidcbbdibnaaaDoorRef
import Derived.Deep.AppendLies
namespace Go.Proofs.YtcoidcbbdibnaaaDoor
open Go.RowKit
set_option linter.unusedVariables false

/-- A slice that the call itself has made, of limbs. -/
def Ow (w : World) (base : Nat) (v : Value) (l : List Int) : Prop := w.ownsRow base 31 1 v l.length (l.map (Value.int .u64))
theorem Ow.nil (w : World) (base : Nat) : Ow w base (.slice none 0 0) [] := World.ownsRow_nil _ _ _ _
theorem Ow.alloc {w : World} {base : Nat} {v : Value} {l : List Int} (h : Ow w base v l) (o : Obj) : Ow (w.alloc o) base v l := World.ownsRow.alloc h o
theorem Ow.slice {w : World} {base : Nat} {v : Value} {l : List Int} (h : Ow w base v l) : ∃ A c, v = .slice A l.length c ∧ l.length ≤ c := by
  rcases h.2 with ⟨h1, h2⟩ | ⟨g, cap, cur, hv, _, _, hnc, _⟩
  · exact ⟨none, 0, by rw [h2]; exact h1, by omega⟩
  · exact ⟨_, _, hv, hnc⟩
theorem Ow.rd {w : World} {base : Nat} {v : Value} {l : List Int} (h : Ow w base v l) (hl : Lim Wd l) (hn : l.length ≤ 17592186044416) : ∃ A n c, v = .slice A n c ∧ Rd w w.heap.size A n c l := by
  rcases h.2 with ⟨h1, h2⟩ | ⟨g, cap, cur, hv, hbg, hh, hnc, _⟩
  · have : l = [] := List.eq_nil_of_length_eq_zero h2
    subst this
    exact ⟨_, _, _, h1, Rd.nil⟩
  · refine ⟨_, _, _, hv, rfl, hnc, hn, hl, fun _ => ⟨g, 0, rfl, (Array.getElem?_eq_some_iff.1 hh).1, fun k hk => ?_⟩⟩
    have hc := World.ownsRow.cells h (g := g) (by rw [hv]; rfl) k (.int .u64 l[k]) (by simp [hk])
    rw [← hc]
    unfold Addr.add
    by_cases h0 : k = 0
    · subst h0; simp
    · rw [if_neg h0]

theorem wp_push64 {W : World} {ops : Array Oper} {rest : List Oper} {o : Oper} {a : Act} {Q : Exit → Act → World → Prop} (hg : o.guard = none) (s x : Operand)
    (hop : o.op = .call { callee := .builtin .append, args := #[s, x], argTypes := #[22, 22] }) (base : Nat) (v : Value) (l : List Int) (hs : a.eval s = v) (hown : Ow W base v l)
    (g0 : Nat) (y : Int) (hx : a.eval x = .slice (some ⟨g0, 0, none⟩) 1 1) (hc : W.cell? ⟨g0, 0, none⟩ = some (.int .u64 y)) (hlen : l.length ≤ 8796093022208) (hbase : base ≤ W.heap.size)
    (hK : ∀ v' w', Ow w' base v' (l ++ [y]) → Below base W w' → wpList Tryd.prog ops Q rest (a.put o.dst v') w') : wpList Tryd.prog ops Q (o :: rest) a W := by
  obtain ⟨i0, hi, hz0, hz1, hz2⟩ := info_parts Tryd.info64
  refine wpList_append_own W hg s x 22 hop base 31 i0 (.int .u64 0) 1 8 Tryd.underlying22 hi hz0 hz1 hz2 rfl (by decide) v _ _ hs hown ⟨g0, 0, none⟩ 1 1 [.int .u64 y] hx rfl ?_ ?_ (by unfold maxLen; omega) (by omega) hbase ?_
  · intro j u hj
    match j, hj with
    | 0, hj => simp at hj; subst hj; simpa [Addr.add] using hc
  · intro u hu; simp at hu; subst hu; rfl
  · intro v' w' h1 h2 _
    refine hK v' w' ?_ ⟨h2.os, h2.tape, h2.output, h2.size, fun k hk => h2.block k (by omega) (fun e => by have := (World.ownsRow.lt hown k e.symm).1; omega)⟩
    unfold Ow
    simpa using h1

theorem dg_of_len {b : Nat} (hb : 2 ≤ b) {l : List Int} {N : Nat} (hl : Lim b l) (hv : vl b l = N) (ht : 0 < l.length → b ^ (l.length - 1) ≤ N) : l = dg b N := by
  subst hv
  symm
  refine dg_of hb hl fun x hx h0 => ?_
  subst h0
  rw [List.getLast?_eq_getElem?] at hx
  have hpos : 0 < l.length := by
    rcases Nat.eq_zero_or_pos l.length with h | h
    · have : l = [] := List.eq_nil_of_length_eq_zero h
      subst this; simp at hx
    · exact h
  have hlt : l.length - 1 < l.length := by omega
  rw [List.getElem?_eq_getElem hlt] at hx
  injection hx with hx
  have h1 := vl_split b l (l.length - 1) (by omega)
  rw [vl_drop_step b l _ hlt, hx, List.drop_eq_nil_of_le (by omega)] at h1
  have h2 := vl_lt (hl.take (l.length - 1))
  rw [List.length_take, Nat.min_eq_left (by omega)] at h2
  have h3 := ht hpos
  have e : b ^ (l.length - 1) * ((0 : Int).toNat + b * vl b []) = 0 := by simp [vl]
  omega

theorem Hb_le {m k : Nat} (h : m ≤ 2 * k) : Hb ^ m ≤ Wd ^ k := by rw [← Hb_pow]; exact Nat.pow_le_pow_right Hb0 h
theorem Rd.smallH {w : World} {B n c k N : Nat} {A : Option Addr} (h : Rd w B A n c (dg Hb N)) (hN : Sm N k) : n ≤ 2 * k := by
  rw [← h.len]
  refine dg_len_le Hb2 ?_
  rw [Hb_pow]; exact hN
/-- Limbs under way: i digits are in. -/
def LbInv (d : List Int) (i : Nat) (l : List Int) : Prop := Lim Wd l ∧ vl Wd l = vl Hb (d.take i) ∧ 2 * l.length = i
theorem LbInv.two {d l : List Int} {i : Nat} (h : LbInv d i l) (hd : Lim Hb d) (h1 : i + 1 < d.length) : LbInv d (i + 2) (l ++ [d[i] + 4294967296 * d[i + 1]]) := by
  obtain ⟨k1, k2, k3⟩ := h
  have b0 := dig_lt (hd.get (show i < d.length by omega))
  have b1 := dig_lt (hd.get h1)
  have e1 := vl_take_succ Hb d i (by omega)
  have e2 := vl_take_succ Hb d (i + 1) h1
  generalize d[i] = x at *
  generalize d[i + 1] = y at *
  refine ⟨Lim_append.2 ⟨k1, fun z hz => ?_⟩, ?_, by simp; omega⟩
  · simp at hz; subst hz; rw [Wd_eq]; omega
  · rw [vl_append, vl_one, k2, show i + 2 = i + 1 + 1 by omega, e2, e1, ← Hb_pow, k3, Nat.pow_succ]
    have e3 : (x + 4294967296 * y).toNat = x.toNat + Hb * y.toNat := by rw [Hb_eq]; omega
    rw [e3, Nat.mul_add, Nat.mul_assoc]
    omega
theorem LbInv.one {d l : List Int} {i : Nat} (h : LbInv d i l) (hd : Lim Hb d) (h1 : i + 1 = d.length) : Lim Wd (l ++ [d[i]]) ∧ vl Wd (l ++ [d[i]]) = vl Hb d ∧ 2 * (l ++ [d[i]]).length = d.length + 1 := by
  obtain ⟨k1, k2, k3⟩ := h
  have hi : i < d.length := by omega
  have b0 := dig_lt (hd.get hi)
  have e1 := vl_take_succ Hb d i hi
  rw [List.take_of_length_le (by omega)] at e1
  refine ⟨Lim_append.2 ⟨k1, fun z hz => ?_⟩, ?_, by simp; omega⟩
  · simp at hz; subst hz; rw [Wd_eq]; omega
  · rw [vl_append, vl_one, k2, e1, ← Hb_pow, k3]
theorem limbs_end {N : Nat} {l : List Int} (hl : Lim Wd l) (hv : vl Wd l = N) (hn : 2 * l.length ≤ (dg Hb N).length + 1) : l = dg Wd N := by
  refine dg_of_len Wd2 hl hv fun hp => ?_
  have h1 := dg_len_ge Hb2 (n := N) (by omega)
  rw [← Hb_pow]
  exact Nat.le_trans (Nat.pow_le_pow_right Hb0 (by omega)) h1
def LbRel (w : World) (d : List Int) (ov : Value) (i : Nat) (wr : World) : Prop := ∃ l, LbInv d i l ∧ Ow wr w.heap.size ov l ∧ Below w.heap.size w wr
def LbEnd (w : World) (N : Nat) (ov : Value) (wr : World) : Prop := Ow wr w.heap.size ov (dg Wd N) ∧ Below w.heap.size w wr

set_option maxHeartbeats 2000000 in
theorem Limbs_any (A : Option Addr) (n c : Nat) (l0 : List Int) (w : World) (h : Rd w w.heap.size A n c l0) (hl0 : Lim Hb l0) (hn : n ≤ 1099511627776) :
    Calls Tryd.prog 105 #[.slice A n c] w (Out w (vl Hb l0)) := by
  generalize hN : vl Hb l0 = N at *
  have HN := Lib.hid hN; clear hN
  go_enter Tryd.func105, Tryd.ntmps105
  go_wp2_with fail
  refine (Trim_any _ _ _ _ _ _ h hl0).mono ?_
  rintro e w' ⟨m, rfl, hmn, hrd, rfl⟩
  rw [HN.out] at hrd
  have hd := Lim_dg Hb2 N
  have H := Lib.hid hrd.len
  have hv := vl_dg Hb2 N
  have HV := Lib.hid hv; clear hv
  have hlast : ∀ l, LbInv (dg Hb N) m l → l = dg Wd N := fun l hi => by
    obtain ⟨i1, i2, i3⟩ := hi
    rw [List.take_of_length_le (Nat.le_of_eq H.out), HV.out] at i2
    exact limbs_end i1 i2 (by have := H.out; omega)
  have hlast1 : ∀ l i (hi : i < (dg Hb N).length), i + 1 = m → LbInv (dg Hb N) i l → l ++ [(dg Hb N)[i]] = dg Wd N := fun l i hi hm h => by
    obtain ⟨i1, i2, i3⟩ := h.one hd (by have := H.out; omega)
    rw [HV.out] at i2
    exact limbs_end i1 i2 (Nat.le_of_eq i3)
  have H1 := Lib.hid hlast; have H2 := Lib.hid hlast1
  clear hlast hlast1 h hl0
  generalize hD : dg Hb N = D at *
  have HD := Lib.hid hD; clear hD
  go_wp2_with fail
  go_loopw [3, 4, 5] (fun ov iv _ wr => ∃ i : Nat, iv = .int .i64 i ∧ i ≤ m + 1 ∧ (i ≤ m → LbRel w D ov i wr) ∧ (m ≤ i → LbEnd w N ov wr)) (fun _ iv _ _ => m + 1 - (intOf iv).toNat)
  case atStart =>
    refine ⟨0, rfl, by omega, fun _ => ⟨[], ⟨Lim_nil _, by simp [vl], rfl⟩, Ow.nil _ _, Below.refl _ _⟩, fun h => ⟨?_, Below.refl _ _⟩⟩
    have h0 : m = 0 := by omega
    have hli : LbInv D m [] := ⟨Lim_nil _, by rw [h0]; simp [vl], by simp; omega⟩
    have : ([] : List Int) = dg Wd N := H1.out [] hli
    rw [← this]; exact Ow.nil _ _
  case round =>
    obtain ⟨i, rfl, him, hrl, hend⟩ := hrel
    by_cases hi : i < m
    · obtain ⟨l, k1, k2, k3⟩ := hrl (by omega)
      clear hrl hend
      obtain ⟨b, of, rfl, hb, hc⟩ := (hrd.below k3).at_ (by omega)
      have hil : i < D.length := by have := H.out; omega
      have c0 := hc i hil
      have b0 := dig_lt (hd.get hil)
      obtain ⟨Ao, co, rfl, hlc⟩ := k2.slice
      have hll := k1.2.2
      by_cases hi2 : i + 1 < m
      · have hil2 : i + 1 < D.length := by have := H.out; omega
        have c1 := hc (i + 1) hil2
        have b1 := dig_lt (hd.get hil2)
        have hst := k1.two hd hil2
        have hfin : i + 2 = m → l ++ [D[i] + 4294967296 * D[i + 1]] = dg Wd N := fun e => H1.out _ (e ▸ hst)
        clear hc
        generalize D[i] = x0 at *
        generalize D[i + 1] = x1 at *
        have hx0 := b0.1; have hx0' := b0.2; have hx1 := b1.1; have hx1' := b1.2
        obtain ⟨y, hy⟩ : ∃ y, x0 + 4294967296 * x1 = y := ⟨_, rfl⟩
        rw [hy] at hst hfin
        have HST := Lib.hid hst; have HF := Lib.hid hfin; have HLL := Lib.hid hll
        clear hst hfin hll b0 b1 k1
        go_wp2_with (at_builtin; refine wp_push64 rfl _ _ rfl w.heap.size _ l rfl (k2.alloc _) wr.heap.size y rfl (by simp) (by have := HLL.out; omega) (by have := k3.size; simp; omega) ?_; intro v' w1 ho1 hb1)
        obtain ⟨A1, cc1, rfl, _⟩ := ho1.slice
        have hbb := (k3.alloc k3.size _).trans hb1
        go_wp2
        go_roundw
        case rel => exact ⟨i + 2, by go_num, by omega, fun _ => ⟨_, HST.out, ho1, hbb⟩, fun hm => ⟨by rw [HF.out (by omega)] at ho1 ⊢; exact ho1, hbb⟩⟩
        case measure => simp [intOf]; omega
      · have hfin := H2.out l i hil (by omega) k1
        clear hc
        generalize D[i] = x0 at *
        have hx0 := b0.1; have hx0' := b0.2
        have HF := Lib.hid hfin; have HLL := Lib.hid hll
        clear hfin hll b0 k1
        go_wp2_with (at_builtin; refine wp_push64 rfl _ _ rfl w.heap.size _ l rfl (k2.alloc _) wr.heap.size x0 rfl (by simp) (by have := HLL.out; omega) (by have := k3.size; simp; omega) ?_; intro v' w1 ho1 hb1)
        obtain ⟨A1, cc1, rfl, _⟩ := ho1.slice
        have hbb := (k3.alloc k3.size _).trans hb1
        go_wp2
        go_roundw
        case rel => exact ⟨i + 2, by go_num, by omega, fun h => absurd h (by omega), fun hm => ⟨by rw [HF.out] at ho1 ⊢; exact ho1, hbb⟩⟩
        case measure => simp [intOf]; omega
    · obtain ⟨k2, k3⟩ := hend (by omega)
      have hlen : (dg Wd N).length ≤ 17592186044416 := by
        refine Nat.le_trans (dg_len_le Wd2 (k := m) ?_) (by omega)
        have h5 : N < Hb ^ m := by have := dg_lt Hb2 (Nat.le_of_eq (HD.out ▸ H.out)); exact this
        exact Nat.lt_of_lt_of_le h5 (Hb_le (by omega))
      obtain ⟨A5, n5, c5, rfl, hrd5⟩ := k2.rd (Lim_dg Wd2 _) hlen
      go_wp2
      go_ret
      exact ⟨_, _, _, rfl, hrd5, k3⟩

set_option maxHeartbeats 400000 in
theorem RNorm_any (A : Option Addr) (n c : Nat) (l : List Int) (w : World) (h : Rd w w.heap.size A n c l) (hn : n ≤ 549755813888) :
    Calls Tryd.prog 104 #[.slice A n c] w (Out w (vl Wd l)) := by
  have hN : Sm (vl Wd l) 549755813888 := Sm.of h hn
  go_enter Tryd.func104, Tryd.ntmps104
  go_wp2_with fail
  refine (Digits_any _ _ _ _ _ h (by omega)).mono ?_
  rintro e w1 ⟨A1, n1, c1, rfl, g1, hb1⟩
  have hz := g1.smallH hN
  go_wp2_with fail
  refine (Limbs_any _ _ _ _ _ g1 (Lim_dg Hb2 _) (by omega)).mono ?_
  rintro e w2 ⟨A2, n2, c2, rfl, g2, hb2⟩
  rw [vl_dg Hb2] at g2
  have hb := hb1.trans (hb2.mono hb1.size)
  go_wp2
  go_ret
  exact ⟨_, _, _, rfl, g2, hb⟩

set_option maxHeartbeats 1000000 in
theorem CmpDigits_any (A A2 : Option Addr) (n c n2 c2 N M : Nat) (w : World) (B : Nat) (hrd : Rd w B A n c (dg Hb N)) (hrd2 : Rd w B A2 n2 c2 (dg Hb M)) :
    Calls Tryd.prog 107 #[.slice A n c, .slice A2 n2 c2] w fun e w' => e = .returned (.int .i64 (cmpI N M)) ∧ Quiet w w' := by
  have hcap := hrd.cap
  have hbig := hrd.big
  have hcap2 := hrd2.cap
  have hbig2 := hrd2.big
  have H := Lib.hid hrd.len
  have H2 := Lib.hid hrd2.len
  by_cases hne : n = n2
  · subst hne
    have hb0 : ((n : Int) != n) = false := by simp
    go_enter Tryd.func107, Tryd.ntmps107
    go_wp2_with fail
    go_loopw [5] (fun iv wr => ∃ k : Nat, k ≤ n ∧ iv = .int .i64 ((k : Int) - 1) ∧ Hid (∀ j (h1 : j < (dg Hb N).length) (h2 : j < (dg Hb M).length), k ≤ j → (dg Hb N)[j] = (dg Hb M)[j]) ∧ Quiet w wr) (fun iv _ => (intOf iv + 1).toNat)
    case atStart => exact ⟨n, Nat.le_refl _, rfl, fun j h1 _ h => absurd h (by have := H.out; omega), Quiet.refl w⟩
    case round =>
      obtain ⟨k, hk, rfl, hz, hq⟩ := hrel
      rcases k with _ | i
      · go_wp2
        go_ret
        exact ⟨ret_i64 (cmp_eq Hb2 (H.out.trans H2.out.symm) fun j h1 h2 => hz.out j h1 h2 (Nat.zero_le _)), hq⟩
      · obtain ⟨b, off, rfl, hb, hc⟩ := hrd.at_ (by omega)
        obtain ⟨b2, off2, rfl, hb2, hc2⟩ := hrd2.at_ (by omega)
        have hkl : i < (dg Hb N).length := by have := H.out; omega
        have hkm : i < (dg Hb M).length := by have := H2.out; omega
        have hck := (hq.cell _).trans (hc i hkl)
        have hck2 := (hq.cell _).trans (hc2 i hkm)
        clear hc hc2
        have hat := cmp_at Hb2 (H.out.trans H2.out.symm) hkl hkm (fun j h1 h2 hj => hz.out j h1 h2 (by omega))
        have hnext : (dg Hb N)[i] = (dg Hb M)[i] → ∀ j (h1 : j < (dg Hb N).length) (h2 : j < (dg Hb M).length), i ≤ j → (dg Hb N)[j] = (dg Hb M)[j] := fun he j h1 h2 hj => by
          rcases Nat.eq_or_lt_of_le hj with h | h
          · subst h; exact he
          · exact hz.out j h1 h2 h
        generalize (dg Hb N)[i] = x at *
        generalize (dg Hb M)[i] = y at *
        have HAT := Lib.hid hat; have HNX := Lib.hid hnext
        clear hat hnext
        have ei : ((i + 1 : Nat) : Int) - 1 = i := by omega
        have hin : (i : Int) < n := by omega
        by_cases hxy : x < y
        · have hr : (-1 : Int) = cmpI N M := by
            have := HAT.out (by omega)
            rw [← this]; simp [sideI, hxy]
          have HR := Lib.hid hr; clear hr
          go_wp2
          go_quiet (fail)
          have hq2 := hq.drewN nq
          generalize wr.drewN nq = wq at *
          clear hck hck2 hq
          go_wp2
          go_ret
          exact ⟨ret_i64 HR.out, hq2⟩
        · by_cases hyx : y < x
          · have hr : (1 : Int) = cmpI N M := by
              have := HAT.out (by omega)
              rw [← this]; simp [sideI, hxy]
            have HR := Lib.hid hr; clear hr
            go_wp2
            go_quiet (fail)
            have hq2 := hq.drewN nq
            have hcn : (wr.drewN nq).cell? ⟨b, off + i, none⟩ = _ := hck
            have hcn2 : (wr.drewN nq).cell? ⟨b2, off2 + i, none⟩ = _ := hck2
            generalize wr.drewN nq = wq at *
            clear hck hck2 hq
            go_wp2
            go_quiet (fail)
            have hq3 := hq2.drewN nq
            generalize wq.drewN nq = wq2 at *
            clear hcn hcn2 hq2
            go_wp2
            go_ret
            exact ⟨ret_i64 HR.out, hq3⟩
          · have hxe : x = y := by omega
            have HZ := Lib.hid (HNX.out hxe)
            clear hxe
            go_wp2
            go_quiet (fail)
            have hq2 := hq.drewN nq
            have hcn : (wr.drewN nq).cell? ⟨b, off + i, none⟩ = _ := hck
            have hcn2 : (wr.drewN nq).cell? ⟨b2, off2 + i, none⟩ = _ := hck2
            generalize wr.drewN nq = wq at *
            clear hck hck2 hq
            go_wp2
            go_quiet (fail)
            have hq3 := hq2.drewN nq
            generalize wq.drewN nq = wq2 at *
            clear hcn hcn2 hq2
            go_wp2
            go_roundw
            case rel => exact ⟨i, by omega, by go_num, HZ.out, hq3⟩
            case measure => simp [intOf]
  · have hb0 : ((n : Int) != n2) = true := by simp; omega
    have hr := cmp_len Hb2 (N := N) (M := M) (by rw [H.out, H2.out]; exact hne)
    rw [H.out, H2.out] at hr
    by_cases hlt : n < n2
    · have hr2 : (-1 : Int) = cmpI N M := by rw [← hr]; simp [sideI, hlt]
      have HR := Lib.hid hr2; clear hr hr2
      go_enter Tryd.func107, Tryd.ntmps107
      go_wp2
      go_ret
      exact ⟨ret_i64 HR.out, Quiet.refl _⟩
    · have hr2 : (1 : Int) = cmpI N M := by rw [← hr]; simp [sideI, hlt]
      have HR := Lib.hid hr2; clear hr hr2
      go_enter Tryd.func107, Tryd.ntmps107
      go_wp2
      go_ret
      exact ⟨ret_i64 HR.out, Quiet.refl _⟩
end Go.Proofs.YtcoidcbbdibnaaaDoor
