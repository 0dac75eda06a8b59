/-
  The document's answer: mul of digits; Mul.
-/
import Derived.Test.YtcoidcbbdibnaaaDoorRadd
namespace Go.Proofs.YtcoidcbbdibnaaaDoor
open Go.RowKit
set_option linter.unusedVariables false

def MhInv (T : Nat) (la lb : List Int) (i : Nat) (L : List Int) : Prop := L.length = T ∧ Lim Hb L ∧ vl Hb L = vl Hb (la.take i) * vl Hb lb
/-- The inner loop: k digits of lb are done. -/
def MkInv (T : Nat) (lb L0 : List Int) (i : Nat) (x : Int) (k : Nat) (L : List Int) (c : Int) : Prop :=
  L.length = T ∧ Lim Hb L ∧ 0 ≤ c ∧ c < 4294967296 ∧ L[i + lb.length]? = L0[i + lb.length]? ∧ vl Hb L + Hb ^ (i + k) * c.toNat = vl Hb L0 + Hb ^ i * (x.toNat * vl Hb (lb.take k))
theorem MkInv.step {T : Nat} {lb L0 L : List Int} {i k : Nat} {x c S : Int} (h : MkInv T lb L0 i x k L c) (hx : 0 ≤ x ∧ x < 4294967296) (hlb : Lim Hb lb) (hk : k < lb.length) (hL : i + k < L.length)
    (hS : L[i + k] + x * lb[k] + c = S) : MkInv T lb L0 i x (k + 1) (L.set (i + k) (S % 4294967296)) (S / 4294967296) ∧ 0 ≤ S ∧ S < 18446744073709551616 := by
  obtain ⟨h1, h2, h3, h3', h4, h5⟩ := h
  have bz := dig_lt (h2.get hL)
  have by_ := dig_lt (hlb.get hk)
  have hs := vl_set Hb L (i + k) hL (S % 4294967296)
  have ht := vl_take_succ Hb lb k hk
  generalize L[i + k] = z at *
  generalize lb[k] = y at *
  have hp := halves_mul x y ⟨hx.1, by omega⟩ ⟨by_.1, by omega⟩
  have hxy : (x * y).toNat = x.toNat * y.toNat := Int.toNat_mul hx.1 by_.1
  generalize x * y = p at *
  refine ⟨⟨by simpa using h1, h2.set _ (by rw [Hb_eq]; omega), by omega, by omega, by rw [List.getElem?_set_ne (by omega)]; exact h4, ?_⟩, by omega, by omega⟩
  have e4 : (S % 4294967296).toNat + Hb * (S / 4294967296).toNat = z.toNat + p.toNat + c.toNat := by rw [Hb_eq]; omega
  have e5 : Hb ^ (i + k) * ((S % 4294967296).toNat + Hb * (S / 4294967296).toNat) = Hb ^ (i + k) * (z.toNat + p.toNat + c.toNat) := by rw [e4]
  simp only [Nat.mul_add] at e5
  rw [ht, Nat.mul_add x.toNat, Nat.mul_add (Hb ^ i), show i + (k + 1) = i + k + 1 by omega, Nat.pow_succ, Nat.mul_assoc]
  have e6 : Hb ^ i * (x.toNat * (Hb ^ k * y.toNat)) = Hb ^ (i + k) * p.toNat := by
    rw [hxy, Nat.pow_add, Nat.mul_left_comm x.toNat, ← Nat.mul_assoc (Hb ^ i)]
  rw [e6]
  omega
theorem zero_atH {l : List Int} (h : Lim Hb l) {j : Nat} (hj : j < l.length) (hv : vl Hb l < Hb ^ j) : l[j] = 0 := by
  have h1 := vl_split Hb l j (by omega)
  rw [vl_drop_step Hb l j hj] at h1
  have h2 := h.get hj
  rcases Nat.eq_zero_or_pos l[j].toNat with h0 | h0
  · omega
  · exfalso
    have : Hb ^ j * 1 ≤ Hb ^ j * (l[j].toNat + Hb * vl Hb (l.drop (j + 1))) := Nat.mul_le_mul_left _ (by omega)
    rw [Nat.mul_one] at this
    generalize Hb ^ j * (l[j].toNat + Hb * vl Hb (l.drop (j + 1))) = r at *
    omega
theorem MhInv.zero {T : Nat} {la lb L : List Int} {i : Nat} (h : MhInv T la lb i L) (hla : Lim Hb la) (hlb : Lim Hb lb) (hi : i ≤ la.length) (hj : i + lb.length < L.length) : L[i + lb.length] = 0 := by
  refine zero_atH h.2.1 hj ?_
  rw [h.2.2, Nat.pow_add]
  have b2 := vl_lt (hla.take i)
  rw [List.length_take, Nat.min_eq_left hi] at b2
  exact Nat.mul_lt_mul'' b2 (vl_lt hlb)
theorem MkInv.last {T : Nat} {la lb L0 L : List Int} {i : Nat} {x c : Int} (h0 : MhInv T la lb i L0) (hla : Lim Hb la) (hlb : Lim Hb lb) (hi : i < la.length) (hx : la[i] = x) (h : MkInv T lb L0 i x lb.length L c) (hj : i + lb.length < L.length) :
    L[i + lb.length] = 0 ∧ MhInv T la lb (i + 1) (L.set (i + lb.length) c) := by
  have hlen : L0.length = L.length := by rw [h0.1, h.1]
  have hz0 := h0.zero hla hlb (by omega) (by omega)
  obtain ⟨h1, h2, h3, h3', h4, h5⟩ := h
  have hz : L[i + lb.length] = 0 := by
    rw [List.getElem?_eq_getElem hj, List.getElem?_eq_getElem (by omega), hz0] at h4
    injection h4
  refine ⟨hz, by simpa using h1, h2.set _ (by rw [Hb_eq]; omega), ?_⟩
  have hs := vl_set Hb L (i + lb.length) hj c
  rw [hz, show (0 : Int).toNat = 0 from rfl, Nat.mul_zero, Nat.add_zero] at hs
  rw [List.take_of_length_le (Nat.le_refl _)] at h5
  rw [hs, h5, h0.2.2, vl_take_succ Hb la i hi, hx, Nat.add_mul]
  rw [Nat.mul_assoc]
theorem Sm.lenH {N k : Nat} (h : Sm N k) : (dg Hb N).length ≤ 2 * k := dg_len_le Hb2 (by rw [Hb_pow]; exact h)
def MhRel (w : World) (g T : Nat) (la lb : List Int) (i : Nat) (wr : World) : Prop := ∃ L, MhInv T la lb i L ∧ Bk wr g L ∧ Below w.heap.size w wr
def MkRel (w : World) (g T : Nat) (lb L0 : List Int) (i : Nat) (x : Int) (cv : Value) (k : Nat) (wr : World) : Prop := ∃ L c, cv = .int .u64 c ∧ MkInv T lb L0 i x k L c ∧ Bk wr g L ∧ Below w.heap.size w wr

set_option maxHeartbeats 4000000 in
theorem rmul_any (A A2 : Option Addr) (n c n2 c2 : Nat) (la lb : List Int) (w : World) (h : Rd w w.heap.size A n c la) (h2 : Rd w w.heap.size A2 n2 c2 lb) (hla : Lim Hb la) (hlb : Lim Hb lb) (hn : n ≤ 10000000) (hn2 : n2 ≤ 10000000) :
    Calls Tryd.prog 110 #[.slice A n c, .slice A2 n2 c2] w (OutH w (vl Hb la * vl Hb lb)) := by
  have H := Lib.hid h.len
  have H2 := Lib.hid h2.len
  obtain ⟨T, hT⟩ : ∃ T, T = n + n2 + 1 := ⟨_, rfl⟩
  have eT : (n : Int) + n2 + 1 = T := by omega
  have hTb : T ≤ 100000000 := by omega
  have HT := Lib.hid hT; clear hT
  go_enter Tryd.func110, Tryd.ntmps110
  go_wp2_with (at_make; refine wp_make64 rfl _ _ rfl T _ _ rfl rfl (by omega) (by omega) (by omega) ?_; intro w1 hbk1 hb1)
  go_loopw [6, 7, 8, 9] (fun iv _ _ _ wr => ∃ i : Nat, i ≤ n ∧ iv = .int .i64 i ∧ MhRel w w.heap.size T la lb i wr) (fun iv _ _ _ _ => n - (intOf iv).toNat)
  case atStart => exact ⟨0, Nat.zero_le _, rfl, _, ⟨by simp, Lim_replicate Hb0 _, by rw [vl_replicate]; simp [vl]⟩, hbk1, hb1⟩
  case round =>
    obtain ⟨i, hi, rfl, L0, k1, k2, k3⟩ := hrel
    clear hbk1 hb1
    by_cases hin : i < n
    · have hil : i < la.length := by have := H.out; omega
      obtain ⟨x, hx⟩ : ∃ x, la[i] = x := ⟨_, rfl⟩
      have bx := dig_lt (hla.get hil)
      rw [hx] at bx
      have hlast := fun L c (hh : MkInv T lb L0 i x lb.length L c) hj => MkInv.last k1 hla hlb hil hx hh hj
      have HLA := Lib.hid hlast; have HX := Lib.hid hx
      have hL0 := k1.1
      clear hlast hx
      go_wp2
      go_loopw [7, 8, 9] (fun cv kv _ wr => ∃ k : Nat, k ≤ n2 ∧ kv = .int .i64 k ∧ MkRel w w.heap.size T lb L0 i x cv k wr) (fun _ kv _ _ => n2 - (intOf kv).toNat)
      case atStart => exact ⟨0, Nat.zero_le _, rfl, L0, 0, rfl, ⟨hL0, k1.2.1, by omega, by omega, rfl, by simp [vl]⟩, k2, k3⟩
      case round =>
        clear k2 k3
        obtain ⟨k, hk, rfl, L, cy, rfl, j1, j2, j3⟩ := hrel
        have hLT := j1.1
        by_cases hkn : k < n2
        · have hkl : k < lb.length := by have := H2.out; omega
          have hikL : i + k < L.length := by have := HT.out; omega
          obtain ⟨b, of, rfl, hb, hc⟩ := (h.below j3).at_ (by omega)
          obtain ⟨b2, of2, rfl, hb2, hc2⟩ := (h2.below j3).at_ (by omega)
          have ca := hc i hil
          rw [HX.out] at ca
          have cb := hc2 k hkl
          have co := j2.cell (i + k) hikL
          have fo := j2.frozen (i + k)
          have bz := dig_lt (j1.2.1.get hikL)
          have by_ := dig_lt (hlb.get hkl)
          have hcy0 := j1.2.2.1
          have hcy1 := j1.2.2.2.1
          obtain ⟨S, hS⟩ : ∃ S, L[i + k] + x * lb[k] + cy = S := ⟨_, rfl⟩
          obtain ⟨st, hS0, hS1⟩ := j1.step bx hlb hkl hikL hS
          obtain ⟨er, eq⟩ := rem32 hS0 hS1
          have s1 := j2.set (i + k) (S % 4294967296)
          clear hc hc2
          generalize L[i + k] = z at *
          generalize lb[k] = y at *
          have hp := halves_mul x y ⟨bx.1, by omega⟩ ⟨by_.1, by omega⟩
          have ep0 : IntKind.u64.wrap (x * y) = x * y := by rw [wrap_u64]; omega
          obtain ⟨p, hpe⟩ : ∃ p, x * y = p := ⟨_, rfl⟩
          have f1 : IntKind.u64.wrap (IntKind.u64.wrap (z + IntKind.u64.wrap (x * y)) + cy) = S := by rw [ep0, hpe]; rw [hpe] at hp hS; simp only [wrap_u64]; omega
          have F1 := Lib.hid f1; clear f1
          rw [hpe] at hp ep0 hS
          have ep1 : IntKind.u64.wrap (z + p) = z + p := by rw [wrap_u64]; omega
          have ep2 : IntKind.u64.wrap (z + p + cy) = S := by rw [wrap_u64]; omega
          have ep2' : IntKind.u64.wrap S = S := by rw [wrap_u64]; omega
          obtain ⟨r, hr⟩ : ∃ r, S % 4294967296 = r := ⟨_, rfl⟩
          obtain ⟨q, hq⟩ : ∃ q, S / 4294967296 = q := ⟨_, rfl⟩
          rw [hr] at er st s1
          rw [hq] at eq st
          obtain ⟨u, hu⟩ : ∃ u, u = i + k := ⟨_, rfl⟩
          have eu : (i : Int) + k = u := by omega
          have eu2 : IntKind.i64.wrap ((i : Int) + k) = u := by rw [IntKind.wrap_i64]; omega
          have huT : (u : Int) < T := by have := HT.out; omega
          rw [← hu] at co fo s1
          have R : MkRel w w.heap.size T lb L0 i x (.int .u64 q) (k + 1) ((wr.setCell ⟨w.heap.size, u, none⟩ (.int .u64 r))) := ⟨_, _, rfl, by rw [hu] at *; exact st, s1, j3.setCell (Nat.le_refl _) _⟩
          have R' : ∀ nq, MkRel w w.heap.size T lb L0 i x (.int .u64 q) (k + 1) (((wr.drewN nq).setCell ⟨w.heap.size, u, none⟩ (.int .u64 r))) := fun nq => by
            obtain ⟨LL, cc, a1, a2, a3, a4⟩ := R
            exact ⟨LL, cc, a1, a2, a3, ⟨a4.os, a4.tape, a4.output, a4.size, a4.block⟩⟩
          have HR := Lib.hid R'
          have hkn' : (k : Int) < n2 := by omega
          have hin' : (i : Int) < n := by omega
          have HU := Lib.hid hu
          clear st s1 R R' j1 j2 j3 hr hq hu hLT hikL hpe
          go_wp2
          go_quiet (fail)
          have co' : (wr.drewN nq).cell? ⟨w.heap.size, u, none⟩ = _ := co
          have fo' : (wr.drewN nq).frozen? ⟨w.heap.size, u, none⟩ = _ := fo
          have R1 := HR.out nq
          generalize wr.drewN nq = wq at *
          clear co fo ca cb HR
          go_wp2
          go_roundw
          case rel => first | exact ⟨k + 1, by omega, by go_num, R1⟩ | (rw [F1.out, er, eq]; exact ⟨k + 1, by omega, by go_num, R1⟩)
          case measure => simp [intOf]; omega
        · obtain rfl : n2 = k := by omega
          have hln := H2.out
          have hj : i + lb.length < L.length := by have := HT.out; omega
          obtain ⟨hz, hst⟩ := HLA.out L cy (by rw [hln]; exact j1) hj
          have co := j2.cell (i + lb.length) hj
          rw [hz] at co
          have fo := j2.frozen (i + lb.length)
          have s1 := j2.set (i + lb.length) cy
          rw [hln] at co fo s1 hst
          have hcy0 := j1.2.2.1
          have hcy1 := j1.2.2.2.1
          obtain ⟨u, hu⟩ : ∃ u, u = i + n2 := ⟨_, rfl⟩
          have eu : (i : Int) + n2 = u := by omega
          have huT : (u : Int) < T := by have := HT.out; omega
          rw [← hu] at co fo s1 hst
          have R : MhRel w w.heap.size T la lb (i + 1) ((wr.setCell ⟨w.heap.size, u, none⟩ (.int .u64 cy))) := ⟨_, hst, s1, j3.setCell (Nat.le_refl _) _⟩
          have HU := Lib.hid hu
          clear hst s1 j1 j2 j3 hz hj hln hu hLT
          go_wp2
          go_roundw
          case rel => exact ⟨i + 1, by omega, by go_num, R⟩
          case measure => simp [intOf]; omega
    · obtain rfl : n = i := by omega
      obtain ⟨i1, i2, i3⟩ := k1
      rw [List.take_of_length_le (by have := H.out; omega)] at i3
      have hw3 := k2.whole (B := wr.heap.size) (n := T) (c := T) k2.lt i1 (Nat.le_refl _) (by omega) (Lim_Wd i2)
      have H3 := Lib.hid i3
      clear i1 i3
      go_wp2_with fail
      refine (Trim_any _ _ _ _ _ _ hw3 i2).mono ?_
      rintro e w' ⟨n5, rfl, _, hrd5, rfl⟩
      rw [H3.out] at hrd5
      go_wp2
      go_ret
      exact ⟨_, _, _, rfl, hrd5, k3⟩

set_option maxHeartbeats 400000 in
theorem RMul_any (A A2 : Option Addr) (n c n2 c2 : Nat) (l m : List Int) (w : World) (h : Rd w w.heap.size A n c l) (h2 : Rd w w.heap.size A2 n2 c2 m) (hn : n ≤ 1000000) (hn2 : n2 ≤ 1000000) :
    Calls Tryd.prog 87 #[.slice A n c, .slice A2 n2 c2] w (Out w (vl Wd l * vl Wd m)) := by
  have Z1 := Lib.hid (Sm.of h hn)
  have Z2 := Lib.hid (Sm.of h2 hn2)
  go_enter Tryd.func87, Tryd.ntmps87
  go_wp2_with fail
  refine (Digits_any _ _ _ _ _ h (by omega)).mono ?_
  rintro e w1 ⟨A1, n1, c1, rfl, g1, hb1⟩
  go_wp2_with fail
  refine (Digits_any _ _ _ _ _ ((h2.below hb1).more hb1.size) (by omega)).mono ?_
  rintro e w2 ⟨A3, n3, c3, rfl, g2, hb2⟩
  have g1 := (g1.below hb2).more hb2.size
  have hb := hb1.trans (hb2.mono hb1.size)
  have y1 := g1.smallH Z1.out
  have y2 := g2.smallH Z2.out
  have y3 := (Sm.mul Z1.out Z2.out).lenH
  have HY3 := Lib.hid y3
  clear Z1 Z2 y3
  go_wp2_with fail
  refine (rmul_any _ _ _ _ _ _ _ _ _ g1 g2 (Lim_dg Hb2 _) (Lim_dg Hb2 _) (by omega) (by omega)).mono ?_
  rintro e w3 ⟨A4, n4, c4, rfl, g3, hb3⟩
  rw [vl_dg Hb2, vl_dg Hb2] at g3
  have hb := hb.trans (hb3.mono hb.size)
  have y4 : n4 ≤ 4000000 := by have := HY3.out; rw [g3.len] at this; omega
  go_wp2_with fail
  refine (Limbs_any _ _ _ _ _ g3 (Lim_dg Hb2 _) (by omega)).mono ?_
  rintro e w4 ⟨A5, n5, c5, rfl, g4, hb4⟩
  rw [vl_dg Hb2] at g4
  have hb := hb.trans (hb4.mono hb.size)
  go_wp2
  go_ret
  exact ⟨_, _, _, rfl, g4, hb⟩
end Go.Proofs.YtcoidcbbdibnaaaDoor
