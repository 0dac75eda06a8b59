/-
  The document's answer: add, sub of digits; Add, Sub.
-/
import Derived.Test.YtcoidcbbdibnaaaDoorAll
namespace Go.Proofs.YtcoidcbbdibnaaaDoor
open Go.RowKit
set_option linter.unusedVariables false

/-- What a function of digits hands back, with noughts on top perhaps. -/
def OutL (w : World) (N : Nat) (e : Ending) (w' : World) : Prop := ∃ A n c L, e = .returned (.slice A n c) ∧ Rd w' w'.heap.size A n c L ∧ Lim Hb L ∧ vl Hb L = N ∧ n ≤ 1099511627776 ∧ Below w.heap.size w w'

def AhInv (la lb : List Int) (k : Nat) (L : List Int) (c : Int) : Prop := L.length = k ∧ Lim Hb L ∧ Cr c ∧ vl Hb L + Hb ^ k * c.toNat = vl Hb (la.take k) + vl Hb (lb.take k)
theorem take_step {l : List Int} (k : Nat) : vl Hb (l.take (k + 1)) = vl Hb (l.take k) + Hb ^ k * (l.getD k 0).toNat := by
  by_cases hk : k < l.length
  · rw [vl_take_succ Hb l k hk]; simp [List.getD, hk]
  · rw [List.take_of_length_le (by omega), List.take_of_length_le (by omega)]
    simp [List.getD, List.getElem?_eq_none (show l.length ≤ k by omega)]
theorem AhInv.step {la lb L : List Int} {k : Nat} {c S : Int} (h : AhInv la lb k L c) (hla : Lim Hb la) (hlb : Lim Hb lb) (hS : c + la.getD k 0 + lb.getD k 0 = S) :
    AhInv la lb (k + 1) (L ++ [S % 4294967296]) (S / 4294967296) ∧ 0 ≤ S ∧ S < 8589934592 := by
  obtain ⟨h1, h2, h3, h4⟩ := h
  have bx := dig_lt (hla.getD Hb0 k)
  have by_ := dig_lt (hlb.getD Hb0 k)
  have e1 := take_step (l := la) k
  have e2 := take_step (l := lb) k
  generalize la.getD k 0 = x at *
  generalize lb.getD k 0 = y at *
  have hc : c = 0 ∨ c = 1 := h3
  refine ⟨⟨by simp [h1], Lim_append.2 ⟨h2, fun z hz => by simp at hz; subst hz; rw [Hb_eq]; omega⟩, by unfold Cr; omega, ?_⟩, by omega, by omega⟩
  rw [vl_append, h1, e1, e2, Nat.pow_succ]
  have e3 : vl Hb [S % 4294967296] = (S % 4294967296).toNat := by simp [vl]
  have e4 : (S % 4294967296).toNat + Hb * (S / 4294967296).toNat = c.toNat + x.toNat + y.toNat := by rw [Hb_eq]; omega
  have e5 : Hb ^ k * ((S % 4294967296).toNat + Hb * (S / 4294967296).toNat) = Hb ^ k * (c.toNat + x.toNat + y.toNat) := by rw [e4]
  rw [e3, Nat.mul_assoc]
  simp only [Nat.mul_add] at e5
  omega
theorem getD_at {l : List Int} {k : Nat} (hk : k < l.length) : l.getD k 0 = l[k] := by simp [List.getD, hk]
theorem getD_out {l : List Int} {k : Nat} (hk : l.length ≤ k) : l.getD k 0 = 0 := by simp [List.getD, List.getElem?_eq_none hk]
theorem rem32 {S : Int} (h0 : 0 ≤ S) (h1 : S < 18446744073709551616) : S.tmod 4294967296 = S % 4294967296 ∧ IntKind.u64.wrap (S.tdiv 4294967296) = S / 4294967296 := by
  refine ⟨Int.tmod_eq_emod_of_nonneg h0, ?_⟩
  rw [Int.tdiv_eq_ediv_of_nonneg h0, wrap_u64]
  omega
def AhRel (w : World) (m : Nat) (la lb : List Int) (ov cv : Value) (k : Nat) (wr : World) : Prop :=
  ∃ L c, cv = .int .u64 c ∧ AhInv la lb k L c ∧ (k = m + 1 → c = 0) ∧ Ow wr w.heap.size ov L ∧ Below w.heap.size w wr

set_option maxHeartbeats 4000000 in
theorem radd_any (A A2 : Option Addr) (n c n2 c2 : Nat) (la lb : List Int) (w : World) (h : Rd w w.heap.size A n c la) (h2 : Rd w w.heap.size A2 n2 c2 lb) (hla : Lim Hb la) (hlb : Lim Hb lb) (hn : n ≤ 10000000) (hn2 : n2 ≤ 10000000) :
    Calls Tryd.prog 106 #[.slice A n c, .slice A2 n2 c2] w (OutL w (vl Hb la + vl Hb lb)) := by
  have H := Lib.hid h.len
  have H2 := Lib.hid h2.len
  obtain ⟨m, hm⟩ : ∃ m, m = max n n2 := ⟨_, rfl⟩
  have hm1 : n ≤ m := by omega
  have hm2 : n2 ≤ m := by omega
  have hm3 : m ≤ 10000000 := by omega
  have HM := Lib.hid hm; clear hm
  go_enter Tryd.func106, Tryd.ntmps106
  go_wp2
  go_loopw [5, 6, 7, 8] (fun ov cv iv _ wr => ∃ k : Nat, k ≤ m + 1 ∧ iv = .int .i64 k ∧ AhRel w m la lb ov cv k wr) (fun _ _ iv _ _ => m + 2 - (intOf iv).toNat)
  case atStart => exact ⟨0, by omega, rfl, [], 0, rfl, ⟨rfl, Lim_nil _, Cr_zero, by simp [vl]⟩, fun h => by omega, Ow.nil _ _, Below.refl _ _⟩
  case round =>
    obtain ⟨k, hk, rfl, L, cy, rfl, k1, k2, k3, k4⟩ := hrel
    have hcr := k1.2.2.1
    have hLk := k1.1
    obtain ⟨Ao, co, rfl, hlc⟩ := k3.slice
    have hcy0 : 0 ≤ cy := by rcases hcr with h | h <;> omega
    have hcy1 : cy ≤ 1 := by rcases hcr with h | h <;> omega
    by_cases hkn : k < n
    · have hkl : k < la.length := by have := H.out; omega
      obtain ⟨b, of, rfl, hb, hc⟩ := (h.below k4).at_ (by omega)
      have cx := hc k hkl
      have bx := dig_lt (hla.get hkl)
      have hgx := getD_at hkl
      by_cases hkn2 : k < n2
      · have hkl2 : k < lb.length := by have := H2.out; omega
        obtain ⟨b2, of2, rfl, hb2, hc2⟩ := (h2.below k4).at_ (by omega)
        have cy2 := hc2 k hkl2
        have by_ := dig_lt (hlb.get hkl2)
        have hgy := getD_at hkl2
        obtain ⟨S, hS⟩ : ∃ S, cy + la[k] + lb[k] = S := ⟨_, rfl⟩
        obtain ⟨st, hS0, hS1⟩ := k1.step hla hlb (S := S) (by rw [hgx, hgy]; exact hS)
        obtain ⟨er, eq⟩ := rem32 hS0 (by omega)
        clear hc hc2 hgx hgy
        generalize la[k] = x at *
        generalize lb[k] = y at *
        obtain ⟨r, hr⟩ : ∃ r, S % 4294967296 = r := ⟨_, rfl⟩
        obtain ⟨q, hq⟩ : ∃ q, S / 4294967296 = q := ⟨_, rfl⟩
        rw [hr] at er st
        rw [hq] at eq st
        have hx0 := bx.1; have hx1 := bx.2; have hy0 := by_.1; have hy1 := by_.2
        have HST := Lib.hid st; have HLK := Lib.hid hLk
        clear st hLk bx by_ k1 hr hq
        go_wp2_with (at_builtin; refine wp_push64 rfl _ _ rfl w.heap.size _ L rfl (k3.alloc _) wr.heap.size r rfl (by simp) (by have := HLK.out; omega) (by have := k4.size; simp; omega) ?_; intro v' w1 ho1 hb1)
        obtain ⟨A1, cc1, rfl, _⟩ := ho1.slice
        have hbb := (k4.alloc k4.size _).trans hb1
        go_wp2
        go_roundw
        case rel => exact ⟨k + 1, by omega, by go_num, _, _, rfl, HST.out, fun hh => by omega, ho1, hbb⟩
        case measure => simp [intOf]; omega
      · have hgy := getD_out (l := lb) (k := k) (by have := H2.out; omega)
        obtain ⟨S, hS⟩ : ∃ S, cy + la[k] = S := ⟨_, rfl⟩
        obtain ⟨st, hS0, hS1⟩ := k1.step hla hlb (S := S) (by rw [hgx, hgy]; omega)
        obtain ⟨er, eq⟩ := rem32 hS0 (by omega)
        clear hc hgx hgy
        generalize la[k] = x at *
        obtain ⟨r, hr⟩ : ∃ r, S % 4294967296 = r := ⟨_, rfl⟩
        obtain ⟨q, hq⟩ : ∃ q, S / 4294967296 = q := ⟨_, rfl⟩
        rw [hr] at er st
        rw [hq] at eq st
        have hx0 := bx.1; have hx1 := bx.2
        have HST := Lib.hid st; have HLK := Lib.hid hLk
        clear st hLk bx k1 hr hq
        go_wp2_with (at_builtin; refine wp_push64 rfl _ _ rfl w.heap.size _ L rfl (k3.alloc _) wr.heap.size r rfl (by simp) (by have := HLK.out; omega) (by have := k4.size; simp; omega) ?_; intro v' w1 ho1 hb1)
        obtain ⟨A1, cc1, rfl, _⟩ := ho1.slice
        have hbb := (k4.alloc k4.size _).trans hb1
        go_wp2
        go_roundw
        case rel => exact ⟨k + 1, by omega, by go_num, _, _, rfl, HST.out, fun hh => by omega, ho1, hbb⟩
        case measure => simp [intOf]; omega
    · have hgx := getD_out (l := la) (k := k) (by have := H.out; omega)
      by_cases hkn2 : k < n2
      · have hkl2 : k < lb.length := by have := H2.out; omega
        obtain ⟨b2, of2, rfl, hb2, hc2⟩ := (h2.below k4).at_ (by omega)
        have cy2 := hc2 k hkl2
        have by_ := dig_lt (hlb.get hkl2)
        have hgy := getD_at hkl2
        obtain ⟨S, hS⟩ : ∃ S, cy + lb[k] = S := ⟨_, rfl⟩
        obtain ⟨st, hS0, hS1⟩ := k1.step hla hlb (S := S) (by rw [hgx, hgy]; omega)
        obtain ⟨er, eq⟩ := rem32 hS0 (by omega)
        clear hc2 hgx hgy
        generalize lb[k] = y at *
        obtain ⟨r, hr⟩ : ∃ r, S % 4294967296 = r := ⟨_, rfl⟩
        obtain ⟨q, hq⟩ : ∃ q, S / 4294967296 = q := ⟨_, rfl⟩
        rw [hr] at er st
        rw [hq] at eq st
        have hy0 := by_.1; have hy1 := by_.2
        have HST := Lib.hid st; have HLK := Lib.hid hLk
        clear st hLk by_ k1 hr hq
        go_wp2_with (at_builtin; refine wp_push64 rfl _ _ rfl w.heap.size _ L rfl (k3.alloc _) wr.heap.size r rfl (by simp) (by have := HLK.out; omega) (by have := k4.size; simp; omega) ?_; intro v' w1 ho1 hb1)
        obtain ⟨A1, cc1, rfl, _⟩ := ho1.slice
        have hbb := (k4.alloc k4.size _).trans hb1
        go_wp2
        go_roundw
        case rel => exact ⟨k + 1, by omega, by go_num, _, _, rfl, HST.out, fun hh => by omega, ho1, hbb⟩
        case measure => simp [intOf]; omega
      · have hgy := getD_out (l := lb) (k := k) (by have := H2.out; omega)
        rcases hcr with h0 | h0
        · subst h0
          have hval : vl Hb L = vl Hb la + vl Hb lb := by
            have := k1.2.2.2
            rw [List.take_of_length_le (by have := H.out; omega), List.take_of_length_le (by have := H2.out; omega), show (0 : Int).toNat = 0 from rfl, Nat.mul_zero, Nat.add_zero] at this
            exact this
          obtain ⟨A5, n5, c5, e5, r5⟩ := k3.rd (Lim_Wd k1.2.1) (by omega)
          have hn5 := r5.len
          injection e5 with e5a e5b e5c
          subst e5a e5b e5c
          have HV := Lib.hid hval; have hL2 := k1.2.1
          clear hval k1 hgx hgy hn5
          have hLb : L.length ≤ 1099511627776 := by omega
          clear hLk
          go_wp2
          go_ret
          exact ⟨_, _, _, L, rfl, r5, hL2, HV.out, hLb, k4⟩
        · subst h0
          have hkm : k ≠ m + 1 := fun h => by have := k2 h; omega
          obtain ⟨st, hS0, hS1⟩ := k1.step hla hlb (S := 1) (by rw [hgx, hgy]; omega)
          rw [show (1 : Int) % 4294967296 = 1 by decide, show (1 : Int) / 4294967296 = 0 by decide] at st
          have HST := Lib.hid st; have HLK := Lib.hid hLk
          clear st hLk k1 hgx hgy
          go_wp2_with (at_builtin; refine wp_push64 rfl _ _ rfl w.heap.size _ L rfl (k3.alloc _) wr.heap.size 1 rfl (by simp) (by have := HLK.out; omega) (by have := k4.size; simp; omega) ?_; intro v' w1 ho1 hb1)
          obtain ⟨A1, cc1, rfl, _⟩ := ho1.slice
          have hbb := (k4.alloc k4.size _).trans hb1
          go_wp2
          go_roundw
          case rel => exact ⟨k + 1, by omega, by go_num, _, _, rfl, HST.out, fun hh => rfl, ho1, hbb⟩
          case measure => simp [intOf]; omega

set_option maxHeartbeats 400000 in
theorem RAdd_any (A A2 : Option Addr) (n c n2 c2 : Nat) (l m : List Int) (w : World) (h : Rd w w.heap.size A n c l) (h2 : Rd w w.heap.size A2 n2 c2 m) (hn : n ≤ 1000000) (hn2 : n2 ≤ 1000000) :
    Calls Tryd.prog 83 #[.slice A n c, .slice A2 n2 c2] w (Out w (vl Wd l + vl Wd m)) := by
  have Z1 := Lib.hid (Sm.of h hn)
  have Z2 := Lib.hid (Sm.of h2 hn2)
  go_enter Tryd.func83, Tryd.ntmps83
  go_wp2_with fail
  refine (Digits_any _ _ _ _ _ h (by omega)).mono ?_
  rintro e w1 ⟨A1, n1, c1, rfl, g1, hb1⟩
  go_wp2_with fail
  refine (Digits_any _ _ _ _ _ ((h2.below hb1).more hb1.size) (by omega)).mono ?_
  rintro e w2 ⟨A3, n3, c3, rfl, g2, hb2⟩
  have g1 := (g1.below hb2).more hb2.size
  have hb := hb1.trans (hb2.mono hb1.size)
  have y1 := g1.smallH Z1.out
  have y2 := g2.smallH Z2.out
  clear Z1 Z2
  go_wp2_with fail
  refine (radd_any _ _ _ _ _ _ _ _ _ g1 g2 (Lim_dg Hb2 _) (Lim_dg Hb2 _) (by omega) (by omega)).mono ?_
  rintro e w3 ⟨A4, n4, c4, L, rfl, g3, hL, hv, hn4, hb3⟩
  rw [vl_dg Hb2, vl_dg Hb2] at hv
  have HV := Lib.hid hv; clear hv
  have hb := hb.trans (hb3.mono hb.size)
  go_wp2_with fail
  refine (Limbs_any _ _ _ _ _ g3 hL hn4).mono ?_
  rintro e w4 ⟨A5, n5, c5, rfl, g4, hb4⟩
  rw [HV.out] at g4
  have hb := hb.trans (hb4.mono hb.size)
  go_wp2
  go_ret
  exact ⟨_, _, _, rfl, g4, hb⟩

def ShInvD (la lb : List Int) (k : Nat) (L : List Int) (c : Int) : Prop := L.length = k ∧ Lim Hb L ∧ Cr c ∧ vl Hb L + vl Hb (lb.take k) = vl Hb (la.take k) + Hb ^ k * c.toNat
theorem ShInvD.step {la lb L : List Int} {k : Nat} {c t : Int} (h : ShInvD la lb k L c) (hla : Lim Hb la) (hlb : Lim Hb lb) (ht : c + lb.getD k 0 = t) :
    (la.getD k 0 < t → ShInvD la lb (k + 1) (L ++ [la.getD k 0 + 4294967296 - t]) 1) ∧ (¬ la.getD k 0 < t → ShInvD la lb (k + 1) (L ++ [la.getD k 0 - t]) 0) := by
  obtain ⟨h1, h2, h3, h4⟩ := h
  have bx := dig_lt (hla.getD Hb0 k)
  have by_ := dig_lt (hlb.getD Hb0 k)
  have e1 := take_step (l := la) k
  have e2 := take_step (l := lb) k
  generalize la.getD k 0 = x at *
  generalize lb.getD k 0 = y at *
  have hc : c = 0 ∨ c = 1 := h3
  constructor
  · intro hlt
    refine ⟨by simp [h1], Lim_append.2 ⟨h2, fun z hz => by simp at hz; subst hz; rw [Hb_eq]; omega⟩, .inr rfl, ?_⟩
    rw [vl_append, h1, e1, e2, Nat.pow_succ]
    have e3 : vl Hb [x + 4294967296 - t] = (x + 4294967296 - t).toNat := by simp [vl]
    have e4 : (x + 4294967296 - t).toNat + y.toNat + c.toNat = x.toNat + Hb * (1 : Int).toNat := by rw [Hb_eq]; omega
    have e5 : Hb ^ k * ((x + 4294967296 - t).toNat + y.toNat + c.toNat) = Hb ^ k * (x.toNat + Hb * (1 : Int).toNat) := by rw [e4]
    rw [e3, Nat.mul_assoc]
    simp only [Nat.mul_add] at e5
    omega
  · intro hlt
    refine ⟨by simp [h1], Lim_append.2 ⟨h2, fun z hz => by simp at hz; subst hz; rw [Hb_eq]; omega⟩, .inl rfl, ?_⟩
    rw [vl_append, h1, e1, e2, Nat.pow_succ]
    have e3 : vl Hb [x - t] = (x - t).toNat := by simp [vl]
    have e4 : (x - t).toNat + y.toNat + c.toNat = x.toNat + Hb * (0 : Int).toNat := by rw [Hb_eq]; omega
    have e5 : Hb ^ k * ((x - t).toNat + y.toNat + c.toNat) = Hb ^ k * (x.toNat + Hb * (0 : Int).toNat) := by rw [e4]
    rw [e3, Nat.mul_assoc]
    simp only [Nat.mul_add] at e5
    omega
def ShRelD (w : World) (la lb : List Int) (ov cv : Value) (k : Nat) (wr : World) : Prop := ∃ L c, cv = .int .u64 c ∧ ShInvD la lb k L c ∧ Ow wr w.heap.size ov L ∧ Below w.heap.size w wr

set_option maxHeartbeats 4000000 in
theorem rsub_any (A A2 : Option Addr) (n c n2 c2 : Nat) (la lb : List Int) (w : World) (h : Rd w w.heap.size A n c la) (h2 : Rd w w.heap.size A2 n2 c2 lb) (hla : Lim Hb la) (hlb : Lim Hb lb) (hn : n ≤ 10000000) (hn2 : n2 ≤ n) (hle : vl Hb lb ≤ vl Hb la) :
    Calls Tryd.prog 108 #[.slice A n c, .slice A2 n2 c2] w (OutH w (vl Hb la - vl Hb lb)) := by
  have H := Lib.hid h.len
  have H2 := Lib.hid h2.len
  have HLE := Lib.hid hle; clear hle
  go_enter Tryd.func108, Tryd.ntmps108
  go_wp2
  go_loopw [5, 6, 7, 8, 9] (fun ov cv iv _ _ wr => ∃ k : Nat, k ≤ n ∧ iv = .int .i64 k ∧ ShRelD w la lb ov cv k wr) (fun _ _ iv _ _ _ => n - (intOf iv).toNat)
  case atStart => exact ⟨0, by omega, rfl, [], 0, rfl, ⟨rfl, Lim_nil _, Cr_zero, by simp [vl]⟩, Ow.nil _ _, Below.refl _ _⟩
  case round =>
    obtain ⟨k, hk, rfl, L, cy, rfl, k1, k3, k4⟩ := hrel
    have hcr := k1.2.2.1
    have hLk := k1.1
    obtain ⟨Ao, co, rfl, hlc⟩ := k3.slice
    have hcy0 : 0 ≤ cy := by rcases hcr with h | h <;> omega
    have hcy1 : cy ≤ 1 := by rcases hcr with h | h <;> omega
    by_cases hkn : k < n
    · have hkl : k < la.length := by have := H.out; omega
      obtain ⟨b, of, rfl, hb, hc⟩ := (h.below k4).at_ (by omega)
      have cx := hc k hkl
      have bx := dig_lt (hla.get hkl)
      have hgx := getD_at hkl
      by_cases hkn2 : k < n2
      · have hkl2 : k < lb.length := by have := H2.out; omega
        obtain ⟨b2, of2, rfl, hb2, hc2⟩ := (h2.below k4).at_ (by omega)
        have cy2 := hc2 k hkl2
        have by_ := dig_lt (hlb.get hkl2)
        have hgy := getD_at hkl2
        obtain ⟨t, ht⟩ : ∃ t, cy + lb[k] = t := ⟨_, rfl⟩
        obtain ⟨kst1, kst0⟩ := k1.step hla hlb (t := t) (by rw [hgy]; exact ht)
        rw [hgx] at kst1 kst0
        clear hc hc2 hgx hgy
        generalize la[k] = x at *
        generalize lb[k] = y at *
        have hx0 := bx.1; have hx1 := bx.2; have hy0 := by_.1; have hy1 := by_.2
        have ht0 : 0 ≤ t := by omega
        have ht1 : t ≤ 4294967296 := by omega
        clear bx by_
        by_cases hlt : x < t
        · obtain ⟨d, hd⟩ : ∃ d, x + 4294967296 - t = d := ⟨_, rfl⟩
          have st := kst1 hlt
          rw [hd] at st
          have HST := Lib.hid st; have HLK := Lib.hid hLk
          clear st hLk kst0 kst1 k1
          go_wp2_with (at_builtin; refine wp_push64 rfl _ _ rfl w.heap.size _ L rfl (k3.alloc _) wr.heap.size d rfl (by simp) (by have := HLK.out; omega) (by have := k4.size; simp; omega) ?_; intro v' w1 ho1 hb1)
          obtain ⟨A1, cc1, rfl, _⟩ := ho1.slice
          have hbb := (k4.alloc k4.size _).trans hb1
          go_wp2
          go_roundw
          case rel => exact ⟨k + 1, by omega, by go_num, _, _, rfl, HST.out, ho1, hbb⟩
          case measure => simp [intOf]; omega
        · obtain ⟨d, hd⟩ : ∃ d, x - t = d := ⟨_, rfl⟩
          have st := kst0 hlt
          rw [hd] at st
          have HST := Lib.hid st; have HLK := Lib.hid hLk
          clear st hLk kst0 kst1 k1
          go_wp2_with (at_builtin; refine wp_push64 rfl _ _ rfl w.heap.size _ L rfl (k3.alloc _) wr.heap.size d rfl (by simp) (by have := HLK.out; omega) (by have := k4.size; simp; omega) ?_; intro v' w1 ho1 hb1)
          obtain ⟨A1, cc1, rfl, _⟩ := ho1.slice
          have hbb := (k4.alloc k4.size _).trans hb1
          go_wp2
          go_roundw
          case rel => exact ⟨k + 1, by omega, by go_num, _, _, rfl, HST.out, ho1, hbb⟩
          case measure => simp [intOf]; omega
      · have hgy := getD_out (l := lb) (k := k) (by have := H2.out; omega)
        obtain ⟨kst1, kst0⟩ := k1.step hla hlb (t := cy) (by rw [hgy]; omega)
        rw [hgx] at kst1 kst0
        clear hc hgx hgy
        generalize la[k] = x at *
        have hx0 := bx.1; have hx1 := bx.2
        clear bx
        by_cases hlt : x < cy
        · obtain ⟨d, hd⟩ : ∃ d, x + 4294967296 - cy = d := ⟨_, rfl⟩
          have st := kst1 hlt
          rw [hd] at st
          have HST := Lib.hid st; have HLK := Lib.hid hLk
          clear st hLk kst0 kst1 k1
          go_wp2_with (at_builtin; refine wp_push64 rfl _ _ rfl w.heap.size _ L rfl (k3.alloc _) wr.heap.size d rfl (by simp) (by have := HLK.out; omega) (by have := k4.size; simp; omega) ?_; intro v' w1 ho1 hb1)
          obtain ⟨A1, cc1, rfl, _⟩ := ho1.slice
          have hbb := (k4.alloc k4.size _).trans hb1
          go_wp2
          go_roundw
          case rel => exact ⟨k + 1, by omega, by go_num, _, _, rfl, HST.out, ho1, hbb⟩
          case measure => simp [intOf]; omega
        · obtain ⟨d, hd⟩ : ∃ d, x - cy = d := ⟨_, rfl⟩
          have st := kst0 hlt
          rw [hd] at st
          have HST := Lib.hid st; have HLK := Lib.hid hLk
          clear st hLk kst0 kst1 k1
          go_wp2_with (at_builtin; refine wp_push64 rfl _ _ rfl w.heap.size _ L rfl (k3.alloc _) wr.heap.size d rfl (by simp) (by have := HLK.out; omega) (by have := k4.size; simp; omega) ?_; intro v' w1 ho1 hb1)
          obtain ⟨A1, cc1, rfl, _⟩ := ho1.slice
          have hbb := (k4.alloc k4.size _).trans hb1
          go_wp2
          go_roundw
          case rel => exact ⟨k + 1, by omega, by go_num, _, _, rfl, HST.out, ho1, hbb⟩
          case measure => simp [intOf]; omega
    · obtain rfl : n = k := by omega
      have hval : vl Hb L = vl Hb la - vl Hb lb := by
        have h5 := k1.2.2.2
        rw [List.take_of_length_le (l := lb) (by have := H2.out; omega), List.take_of_length_le (l := la) (by have := H.out; omega)] at h5
        have h6 := vl_lt k1.2.1
        rw [hLk] at h6
        have h7 := HLE.out
        rcases hcr with h0 | h0
        · subst h0; rw [show (0 : Int).toNat = 0 from rfl, Nat.mul_zero] at h5; omega
        · subst h0; rw [show (1 : Int).toNat = 1 from rfl, Nat.mul_one] at h5; omega
      obtain ⟨A5, n5, c5, e5, r5⟩ := k3.rd (Lim_Wd k1.2.1) (by omega)
      injection e5 with e5a e5b e5c
      subst e5a e5b e5c
      have HV := Lib.hid hval; have hL2 := k1.2.1
      clear hval k1 hLk
      go_wp2_with fail
      refine (Trim_any _ _ _ _ _ _ r5 hL2).mono ?_
      rintro e w' ⟨n6, rfl, _, r6, rfl⟩
      rw [HV.out] at r6
      go_wp2
      go_ret
      exact ⟨_, _, _, rfl, r6, k4⟩

set_option maxHeartbeats 1000000 in
theorem RSub_less (A A2 : Option Addr) (n c n2 c2 : Nat) (l m : List Int) (w : World) (h : Rd w w.heap.size A n c l) (h2 : Rd w w.heap.size A2 n2 c2 m) (hn : n ≤ 1000000) (hn2 : n2 ≤ 1000000) (hlt : vl Wd l < vl Wd m) :
    Calls Tryd.prog 84 #[.slice A n c, .slice A2 n2 c2] w fun e w' => e = .returned (.tuple #[.slice none 0 0, .bool false]) ∧ Below w.heap.size w w' := by
  have hc : cmpI (vl Wd l) (vl Wd m) = -1 := by simp [cmpI, hlt]
  have HC := Lib.hid hc; clear hc hlt
  go_enter Tryd.func84, Tryd.ntmps84
  go_wp2_with fail
  refine (Digits_any _ _ _ _ _ h (by omega)).mono ?_
  rintro e w1 ⟨A1, n1, c1, rfl, g1, hb1⟩
  go_wp2_with fail
  refine (Digits_any _ _ _ _ _ ((h2.below hb1).more hb1.size) (by omega)).mono ?_
  rintro e w2 ⟨A3, n3, c3, rfl, g2, hb2⟩
  have g1 := (g1.below hb2).more hb2.size
  have hb := hb1.trans (hb2.mono hb1.size)
  go_wp2_with fail
  refine (CmpDigits_any _ _ _ _ _ _ _ _ _ _ g1 g2).mono ?_
  rintro e w3 ⟨rfl, hq⟩
  rw [HC.out]
  have hb := hb.trans (hq.bel.mono hb.size)
  go_wp2
  go_ret2
  exact ⟨rfl, hb⟩

set_option maxHeartbeats 1000000 in
theorem RSub_any (A A2 : Option Addr) (n c n2 c2 : Nat) (l m : List Int) (w : World) (h : Rd w w.heap.size A n c l) (h2 : Rd w w.heap.size A2 n2 c2 m) (hn : n ≤ 1000000) (hn2 : n2 ≤ 1000000) (hle : vl Wd m ≤ vl Wd l) :
    Calls Tryd.prog 84 #[.slice A n c, .slice A2 n2 c2] w (Out2 w (vl Wd l - vl Wd m)) := by
  have hc : 0 ≤ cmpI (vl Wd l) (vl Wd m) := by unfold cmpI; split <;> (try split) <;> omega
  generalize hcm : cmpI (vl Wd l) (vl Wd m) = cm at *
  have HC := Lib.hid hcm; clear hcm
  have Z1 := Lib.hid (Sm.of h hn)
  have hmono := dg_len_mono Hb2 hle
  have HMO := Lib.hid hmono; have HLE := Lib.hid hle; clear hmono hle
  go_enter Tryd.func84, Tryd.ntmps84
  go_wp2_with fail
  refine (Digits_any _ _ _ _ _ h (by omega)).mono ?_
  rintro e w1 ⟨A1, n1, c1, rfl, g1, hb1⟩
  go_wp2_with fail
  refine (Digits_any _ _ _ _ _ ((h2.below hb1).more hb1.size) (by omega)).mono ?_
  rintro e w2 ⟨A3, n3, c3, rfl, g2, hb2⟩
  have g1 := (g1.below hb2).more hb2.size
  have hb := hb1.trans (hb2.mono hb1.size)
  have y1 := g1.smallH Z1.out
  clear Z1
  have y2 : n3 ≤ n1 := by have := HMO.out; rw [g1.len, g2.len] at this; exact this
  go_wp2_with fail
  refine (CmpDigits_any _ _ _ _ _ _ _ _ _ _ g1 g2).mono ?_
  rintro e w3 ⟨rfl, hq⟩
  rw [HC.out]
  have hb1' := hq.bel
  have g1 := (g1.below hb1').more hb1'.size
  have g2 := (g2.below hb1').more hb1'.size
  have hb := hb.trans (hb1'.mono hb.size)
  clear hb1' hq
  go_wp2_with fail
  refine (rsub_any _ _ _ _ _ _ _ _ _ g1 g2 (Lim_dg Hb2 _) (Lim_dg Hb2 _) (by omega) y2 (by rw [vl_dg Hb2, vl_dg Hb2]; exact HLE.out)).mono ?_
  rintro e w4 ⟨A4, n4, c4, rfl, g3, hb3⟩
  rw [vl_dg Hb2, vl_dg Hb2] at g3
  have hb := hb.trans (hb3.mono hb.size)
  have y3 : n4 ≤ n1 := by have := dg_len_mono Hb2 (Nat.sub_le (vl Wd l) (vl Wd m)); rw [g1.len, g3.len] at this; exact this
  go_wp2_with fail
  refine (Limbs_any _ _ _ _ _ g3 (Lim_dg Hb2 _) (by omega)).mono ?_
  rintro e w5 ⟨A5, n5, c5, rfl, g4, hb4⟩
  rw [vl_dg Hb2] at g4
  have hb := hb.trans (hb4.mono hb.size)
  go_wp2
  go_ret2
  exact ⟨_, _, _, rfl, g4, hb⟩
end Go.Proofs.YtcoidcbbdibnaaaDoor
