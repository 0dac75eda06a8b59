/-
  shiftUp, shiftDown.
-/
import Derived.Test.YtcoidcbbdibnaaaDoorLen
namespace Go.Proofs.YtcoidcbbdibnaaaDoor
open Go.RowKit
set_option linter.unusedVariables false

def shU (s : Nat) (x y : Int) : Int := bits .or .u64 (IntKind.u64.wrap (x * 2 ^ s)) y
theorem Wd_split {s : Nat} (hs : s ≤ 64) : Wd = 2 ^ (64 - s) * 2 ^ s := by rw [← Nat.pow_add, show 64 - s + s = 64 by omega]; exact Wd_pow
theorem shU_eq {s : Nat} (hs : s ≤ 63) (x y : Nat) (hx : x < Wd) (hy : y < 2 ^ s) : shU s x y = ((x * 2 ^ s % Wd + y : Nat) : Int) := by
  unfold shU
  have h1 : IntKind.u64.wrap ((x : Int) * 2 ^ s) = ((x * 2 ^ s % Wd : Nat) : Int) := by
    rw [wrap_u64, Int.natCast_emod, Int.natCast_mul, Int.natCast_pow, Wd_eq]; rfl
  have h2 : (x * 2 ^ s % Wd) % 2 ^ s = 0 := by
    rw [Wd_split (s := s) (by omega), Nat.mod_mul_left_mod, Nat.mul_mod_left]
  have h3 : 2 ^ s < 2 ^ 64 := Nat.pow_lt_pow_right (by omega) (by omega)
  have h4 : x * 2 ^ s % Wd < 2 ^ 64 := by rw [← Wd_pow]; exact Nat.mod_lt _ Wd0
  rw [h1, bits_join .u64 64 (by decide) (fun n h0 h1 => by rw [wrap_u64]; have : n < 18446744073709551616 := by simpa using h1
                                                           omega) s _ _ (by omega) ?_ ?_ (by omega) ?_ ?_]
  · push_cast; rfl
  · exact_mod_cast h2
  · exact_mod_cast h4
  · exact_mod_cast hy
  · exact_mod_cast (Nat.lt_trans hy h3)
theorem sh_div {s x : Nat} (hs : s ≤ 63) : x * 2 ^ s / Wd = x / 2 ^ (64 - s) := by
  rw [Wd_split (s := s) (by omega), Nat.mul_div_mul_right _ _ (Nat.two_pow_pos s)]

def ShInv (W la : List Int) (s k : Nat) (Wk : List Int) (y : Int) : Prop :=
  Wk.length = W.length ∧ Lim Wd Wk ∧ 0 ≤ y ∧ y.toNat < 2 ^ s ∧ vl Wd (Wk.take k) + Wd ^ k * y.toNat = vl Wd (la.take k) * 2 ^ s
theorem ShInv.zero {W la : List Int} {s : Nat} (hW : Lim Wd W) : ShInv W la s 0 W 0 := ⟨rfl, hW, by omega, Nat.two_pow_pos s, by simp [vl]⟩
theorem take_set_succ {l : List Int} {k : Nat} (hk : k < l.length) (x : Int) : vl Wd ((l.set k x).take (k + 1)) = vl Wd (l.take k) + Wd ^ k * x.toNat := by
  rw [vl_take_succ Wd _ k (by simpa using hk), List.getElem_set_self, List.take_set_of_le (Nat.le_refl k)]
theorem ShInv.step {W la Wk : List Int} {s k : Nat} {y : Int} (hs : s ≤ 63) (hla : Lim Wd la) (h : ShInv W la s k Wk y) (hk : k < Wk.length) (hka : k < la.length) :
    ShInv W la s (k + 1) (Wk.set k (shU s la[k] y)) (la[k] / 2 ^ (64 - s)) := by
  obtain ⟨h1, h2, h3, h4, h5⟩ := h
  have hx := hla.get hka
  have hlk : vl Wd (la.take (k + 1)) = vl Wd (la.take k) + Wd ^ k * la[k].toNat := vl_take_succ Wd la k hka
  generalize la[k] = x at *
  obtain ⟨x, rfl⟩ := Int.eq_ofNat_of_zero_le hx.1
  obtain ⟨y, rfl⟩ := Int.eq_ofNat_of_zero_le h3
  rw [Int.toNat_natCast] at h4 h5 hlk
  have hxW : x < Wd := by omega
  have ed : ((x : Int) / 2 ^ (64 - s)) = ((x / 2 ^ (64 - s) : Nat) : Int) := by rw [Int.natCast_ediv, Int.natCast_pow]; rfl
  rw [shU_eq hs x y hxW h4, ed]
  have hy63 : y < 2 ^ s := h4
  have hnew : x * 2 ^ s % Wd + y < Wd := by
    have h2 : (x * 2 ^ s % Wd) % 2 ^ s = 0 := by
      rw [Wd_split (s := s) (by omega), Nat.mod_mul_left_mod, Nat.mul_mod_left]
    have h6 : x * 2 ^ s % Wd < Wd := Nat.mod_lt _ Wd0
    have h7 : Wd % 2 ^ s = 0 := by rw [Wd_split (s := s) (by omega), Nat.mul_mod_left]
    obtain ⟨a, ha⟩ := Nat.dvd_of_mod_eq_zero h2
    obtain ⟨b, hb⟩ := Nat.dvd_of_mod_eq_zero h7
    rw [ha, hb] at h6
    rw [ha, hb]
    have : a < b := Nat.lt_of_mul_lt_mul_left h6
    have h8 : 2 ^ s * (a + 1) ≤ 2 ^ s * b := Nat.mul_le_mul_left _ this
    rw [Nat.mul_add] at h8
    omega
  refine ⟨by simpa using h1, h2.set k ⟨Int.natCast_nonneg _, Int.ofNat_lt.2 hnew⟩, Int.natCast_nonneg _, ?_, ?_⟩
  · rw [Int.toNat_natCast, Nat.div_lt_iff_lt_mul (Nat.two_pow_pos _), ← Nat.pow_add, show s + (64 - s) = 64 by omega, ← Wd_pow]; exact hxW
  · rw [take_set_succ hk, Int.toNat_natCast, Int.toNat_natCast, hlk, Nat.add_mul, ← h5, Nat.pow_succ, Nat.mul_assoc, ← sh_div hs]
    have e1 := Nat.mod_add_div (x * 2 ^ s) Wd
    have e2 : Wd ^ k * (x * 2 ^ s % Wd + y) + Wd ^ k * (Wd * (x * 2 ^ s / Wd)) = Wd ^ k * y + Wd ^ k * x * 2 ^ s := by
      rw [← Nat.mul_add, Nat.mul_assoc, ← Nat.mul_add]; congr 1; omega
    omega
theorem ShInv.last {W la Wk : List Int} {s m : Nat} {y : Int} (hs : s ≤ 63) (h : ShInv W la s m Wk y) (hm : la.length = m) (hl : W.length = m + 1) (hk : m < Wk.length) :
    (Wk.set m y).length = W.length ∧ Lim Wd (Wk.set m y) ∧ vl Wd (Wk.set m y) = vl Wd la * 2 ^ s := by
  obtain ⟨h1, h2, h3, h4, h5⟩ := h
  have h3' : 2 ^ s < 2 ^ 64 := Nat.pow_lt_pow_right (by omega) (by omega)
  rw [← Wd_pow] at h3'
  refine ⟨by simpa using h1, h2.set _ ⟨h3, by omega⟩, ?_⟩
  have := take_set_succ hk y
  rw [List.take_of_length_le (by simp; omega)] at this
  rw [this, h5, List.take_of_length_le (by omega)]

def ShPost (w : World) (g : Nat) (P W S : List Int) (V : Nat) (e : Ending) (w' : World) : Prop :=
  ∃ W', e = .returned (.tuple #[]) ∧ W'.length = W.length ∧ Lim Wd W' ∧ vl Wd W' = V ∧ Bk w' g (P ++ (W' ++ S)) ∧ w.grownBy w' (some g)
def ShRel (w : World) (g : Nat) (P W S la : List Int) (s : Nat) (cy : Value) (k : Nat) (wr : World) : Prop :=
  ∃ Wk y, cy = .int .u64 y ∧ ShInv W la s k Wk y ∧ Bk wr g (P ++ (Wk ++ S)) ∧ w.grownBy wr (some g)

set_option maxHeartbeats 1000000 in
theorem shiftUp_any (g off n c : Nat) (A : Option Addr) (m ca : Nat) (P W S la : List Int) (s : Nat) (w : World) (B : Nat) (hP : P.length = off) (hWn : W.length = n) (hW : Lim Wd W) (hbig : n ≤ 17592186044416)
    (hbk : Bk w g (P ++ (W ++ S))) (h : Rd w B A m ca la) (hB : B ≤ g) (hmn : m + 1 = n) (hs : s ≤ 63) :
    Calls Tryd.prog 91 #[.slice (some ⟨g, off, none⟩) n c, .slice A m ca, .int .i64 s] w (ShPost w g P W S (vl Wd la * 2 ^ s)) := by
  have HP := Lib.hid hP; clear hP
  have HW := Lib.hid hWn; clear hWn
  have H := Lib.hid h.len
  have HM := Lib.hid hmn
  have hmn' : m < n := by omega
  clear hmn
  have hcap := h.cap
  have hbig2 := h.big
  go_enter Tryd.func91, Tryd.ntmps91
  go_wp2
  go_loopw [6, 7, 10] (fun cy _ i wr => ∃ k : Nat, k ≤ m ∧ i = .int .i64 k ∧ ShRel w g P W S la s cy k wr) (fun _ _ i _ => m - (intOf i).toNat)
  case atStart => exact ⟨0, Nat.zero_le _, rfl, W, 0, rfl, ShInv.zero hW, hbk, ⟨rfl, rfl, rfl, Nat.le_refl _, fun _ _ _ => rfl⟩⟩
  case round =>
    obtain ⟨k, hk, rfl, Wk, cy, rfl, hinv, hbkr, hgr⟩ := hrel
    by_cases hkm : k < m
    · obtain ⟨b, of, rfl, hb, hc⟩ := h.at_ (by omega)
      have hkl : k < la.length := by have := H.out; omega
      have hkW : k < Wk.length := by have := HW.out; have := hinv.1; omega
      have hc1 := hbkr.wcell HP.out hkW
      have hf1 := hbkr.frozen (off + k)
      have hc2 : wr.cell? ⟨b, of + k, none⟩ = _ := (World.cell?_of_block (hgr.block b (by have := hbk.lt; omega) (fun e => by injection e with e; omega))).trans (hc k hkl)
      have hc3 : ∀ v, (wr.setCell ⟨g, off + k, none⟩ v).cell? ⟨b, of + k, none⟩ = _ := fun v => (World.cell?_setCell_other wr _ _ v (fun e => by injection e with e; omega)).trans hc2
      have hst := hinv.step hs h.lim hkW hkl
      have hbk' := (hbkr.wset HP.out hkW (shU s la[k] cy))
      clear hc
      generalize hxe : la[k] = x at hc2 hc3 hst hbk'
      have Hx := Lib.hid hxe; clear hxe
      generalize hze : Wk[k] = z at hc1
      have Hz := Lib.hid hze; clear hze
      have hkn : (k : Int) < n := by omega
      have R : ShRel w g P W S la s (.int .u64 (x / 2 ^ (64 - s))) (k + 1) (wr.setCell ⟨g, off + k, none⟩ (.int .u64 (shU s x cy))) := ⟨_, _, rfl, hst, hbk', grownBy_trans hgr (grownBy_set _ _ _ _)⟩
      have hc4 := hc3 (.int .u64 (shU s x cy))
      unfold shU at hc4
      clear hst hbk' hinv hbkr hc3
      go_wp2
      go_roundw
      case rel => exact ⟨k + 1, by omega, by go_num, R⟩
      case measure => simp [intOf]; omega
    · obtain rfl : m = k := by omega
      clear hk hkm
      have hkW : m < Wk.length := by have := HW.out; have := hinv.1; omega
      have hc1 := hbkr.wcell HP.out hkW
      have hf1 := hbkr.frozen (off + m)
      go_wp2
      go_end0
      obtain ⟨r1, r2, r3⟩ := hinv.last hs H.out (by have := HW.out; have := HM.out; omega) hkW
      exact ⟨_, rfl, r1, r2, r3, hbkr.wset HP.out hkW cy, grownBy_trans hgr (grownBy_set _ _ _ _)⟩

def shD (s : Nat) (x y : Int) : Int := bits .or .u64 (x / 2 ^ s) y
def shA (s : Nat) (x : Int) : Int := IntKind.u64.wrap (x * 2 ^ (64 - s))
theorem shA_eq {s : Nat} (hs : s ≤ 63) (x : Nat) : shA s x = ((x % 2 ^ s * 2 ^ (64 - s) : Nat) : Int) := by
  unfold shA
  have h1 : IntKind.u64.wrap ((x : Int) * 2 ^ (64 - s)) = ((x * 2 ^ (64 - s) % Wd : Nat) : Int) := by
    rw [wrap_u64, Int.natCast_emod, Int.natCast_mul, Int.natCast_pow, Wd_eq]; rfl
  rw [h1, Wd_split (s := s) (by omega), Nat.mul_comm (2 ^ (64 - s)) (2 ^ s), Nat.mul_mod_mul_right]
theorem shD_eq {s : Nat} (hs : s ≤ 63) (x r : Nat) (hx : x < Wd) (hr : r < 2 ^ s) : shD s x ((r * 2 ^ (64 - s) : Nat) : Int) = ((x / 2 ^ s + r * 2 ^ (64 - s) : Nat) : Int) ∧ x / 2 ^ s + r * 2 ^ (64 - s) < Wd := by
  have e : ((x : Int) / 2 ^ s) = ((x / 2 ^ s : Nat) : Int) := by rw [Int.natCast_ediv, Int.natCast_pow]; rfl
  have h1 : x / 2 ^ s < 2 ^ (64 - s) := by rw [Nat.div_lt_iff_lt_mul (Nat.two_pow_pos _), ← Wd_split (by omega)]; exact hx
  have h2 : (r + 1) * 2 ^ (64 - s) ≤ 2 ^ s * 2 ^ (64 - s) := Nat.mul_le_mul_right _ hr
  rw [Nat.mul_comm (2 ^ s), ← Wd_split (by omega), Nat.add_mul, Nat.one_mul] at h2
  have h3 : x / 2 ^ s + r * 2 ^ (64 - s) < Wd := by omega
  refine ⟨?_, h3⟩
  unfold shD
  have k1 : x / 2 ^ s < Wd := Nat.lt_of_le_of_lt (Nat.le_add_right _ _) h3
  have k2 : r * 2 ^ (64 - s) < Wd := Nat.lt_of_le_of_lt (Nat.le_add_left _ _) h3
  rw [Wd_eq] at k1 k2
  rw [e, u64_or_nat _ _ k1 k2, Nat.or_comm, nat_join (64 - s) _ _ (Nat.mul_mod_left _ _) h1, Nat.add_comm]

def SdInv (W la : List Int) (s j : Nat) (Wk : List Int) (y : Int) : Prop :=
  Wk.length = W.length ∧ Lim Wd Wk ∧ vl Wd (Wk.drop j) = vl Wd (la.drop j) / 2 ^ s ∧ y = ((vl Wd (la.drop j) % 2 ^ s * 2 ^ (64 - s) : Nat) : Int)
theorem SdInv.step {W la Wk : List Int} {s j : Nat} {y : Int} (hs : s ≤ 63) (hla : Lim Wd la) (h : SdInv W la s (j + 1) Wk y) (hk : j < Wk.length) (hka : j < la.length) :
    SdInv W la s j (Wk.set j (shD s la[j] y)) (shA s la[j]) := by
  obtain ⟨h1, h2, h3, rfl⟩ := h
  have hx := hla.get hka
  have hq := vl_drop_step Wd la j hka
  generalize la[j] = x at *
  generalize vl Wd (la.drop (j + 1)) = q at *
  obtain ⟨x, rfl⟩ := Int.eq_ofNat_of_zero_le hx.1
  rw [Int.toNat_natCast] at hq
  have hxW : x < Wd := by omega
  have hr : q % 2 ^ s < 2 ^ s := Nat.mod_lt _ (Nat.two_pow_pos s)
  have hd := shD_eq hs x (q % 2 ^ s) hxW hr
  rw [hd.1, shA_eq hs]
  refine ⟨by simpa using h1, h2.set j ⟨Int.natCast_nonneg _, Int.ofNat_lt.2 hd.2⟩, ?_, ?_⟩
  · rw [vl_drop_step Wd _ j (by simpa using hk), List.getElem_set_self, Int.toNat_natCast, List.drop_set_of_lt (by omega), h3, hq]
    have hW := Wd_split (s := s) (by omega)
    have e1 : x + Wd * q = x + 2 ^ s * (2 ^ (64 - s) * q) := by rw [hW, Nat.mul_comm (2 ^ (64 - s)) (2 ^ s), Nat.mul_assoc]
    rw [e1, Nat.add_mul_div_left _ _ (Nat.two_pow_pos s)]
    have e2 := Nat.mod_add_div q (2 ^ s)
    have e3 : 2 ^ (64 - s) * q = q % 2 ^ s * 2 ^ (64 - s) + Wd * (q / 2 ^ s) := by
      have e4 : 2 ^ (64 - s) * (q % 2 ^ s + 2 ^ s * (q / 2 ^ s)) = q % 2 ^ s * 2 ^ (64 - s) + Wd * (q / 2 ^ s) := by
        rw [Nat.mul_add, hW, Nat.mul_comm (2 ^ (64 - s)) (q % 2 ^ s), Nat.mul_assoc]
      rw [e2] at e4
      exact e4
    omega
  · rw [hq]
    have hW := Wd_split (s := s) (by omega)
    have e1 : x + Wd * q = x + 2 ^ s * (2 ^ (64 - s) * q) := by rw [hW, Nat.mul_comm (2 ^ (64 - s)) (2 ^ s), Nat.mul_assoc]
    rw [e1, Nat.add_mul_mod_self_left]

def SdRel (w : World) (g : Nat) (P W S la : List Int) (s : Nat) (cy : Value) (j : Nat) (wr : World) : Prop :=
  ∃ Wk y, cy = .int .u64 y ∧ SdInv W la s j Wk y ∧ Bk wr g (P ++ (Wk ++ S)) ∧ w.grownBy wr (some g)

set_option maxHeartbeats 1000000 in
theorem shiftDown_any (g off n c : Nat) (A : Option Addr) (ca : Nat) (P W S la : List Int) (s : Nat) (w : World) (B : Nat) (hP : P.length = off) (hWn : W.length = n) (hW : Lim Wd W) (hbig : n ≤ 17592186044416)
    (hbk : Bk w g (P ++ (W ++ S))) (h : Rd w B A n ca la) (hB : B ≤ g) (hs : s ≤ 63) :
    Calls Tryd.prog 112 #[.slice (some ⟨g, off, none⟩) n c, .slice A n ca, .int .i64 s] w (ShPost w g P W S (vl Wd la / 2 ^ s)) := by
  have HP := Lib.hid hP; clear hP
  have HW := Lib.hid hWn; clear hWn
  have H := Lib.hid h.len
  have hcap := h.cap
  have hbig2 := h.big
  go_enter Tryd.func112, Tryd.ntmps112
  go_wp2
  go_loopw [6, 7, 8, 11] (fun cy _ _ i wr => ∃ k : Nat, k ≤ n ∧ i = .int .i64 k ∧ SdRel w g P W S la s cy (n - k) wr) (fun _ _ _ i _ => n - (intOf i).toNat)
  case atStart => exact ⟨0, Nat.zero_le _, rfl, W, 0, rfl, ⟨rfl, hW, by rw [List.drop_eq_nil_of_le (by have := HW.out; omega), List.drop_eq_nil_of_le (by have := H.out; omega)]; simp [vl], by rw [List.drop_eq_nil_of_le (by have := H.out; omega)]; simp [vl]⟩, hbk, ⟨rfl, rfl, rfl, Nat.le_refl _, fun _ _ _ => rfl⟩⟩
  case round =>
    obtain ⟨k, hk, rfl, Wk, cy, rfl, hinv, hbkr, hgr⟩ := hrel
    by_cases hkm : k < n
    · obtain ⟨b, of, rfl, hb, hc⟩ := h.at_ (by omega)
      obtain ⟨j, hj⟩ : ∃ j, n = j + 1 + k := ⟨n - 1 - k, by omega⟩
      have hjk : n - k = j + 1 := by omega
      have hjk2 : n - (k + 1) = j := by omega
      rw [hjk] at hinv
      have hkl : j < la.length := by have := H.out; omega
      have hkW : j < Wk.length := by have := HW.out; have := hinv.1; omega
      have hc1 := hbkr.wcell HP.out hkW
      have hf1 := hbkr.frozen (off + j)
      have hc2 : wr.cell? ⟨b, of + j, none⟩ = _ := (World.cell?_of_block (hgr.block b (by have := hbk.lt; omega) (fun e => by injection e with e; omega))).trans (hc j hkl)
      have hc3 : ∀ v, (wr.setCell ⟨g, off + j, none⟩ v).cell? ⟨b, of + j, none⟩ = _ := fun v => (World.cell?_setCell_other wr _ _ v (fun e => by injection e with e; omega)).trans hc2
      have hst := hinv.step hs h.lim hkW hkl
      have hbk' := (hbkr.wset HP.out hkW (shD s la[j] cy))
      clear hc
      generalize hxe : la[j] = x at hc2 hc3 hst hbk'
      have Hx := Lib.hid hxe; clear hxe
      generalize hze : Wk[j] = z at hc1
      have Hz := Lib.hid hze; clear hze
      have hjn : (j : Int) < n := by omega
      have e1 : (n : Int) - 1 - k = j := by omega
      have R : SdRel w g P W S la s (.int .u64 (shA s x)) (n - (k + 1)) (wr.setCell ⟨g, off + j, none⟩ (.int .u64 (shD s x cy))) := by rw [hjk2]; exact ⟨_, _, rfl, hst, hbk', grownBy_trans hgr (grownBy_set _ _ _ _)⟩
      have hc4 := hc3 (.int .u64 (shD s x cy))
      unfold shD at hc4
      clear hst hbk' hinv hbkr hc3 hj hjk hjk2
      go_wp2
      go_roundw
      case rel => exact ⟨k + 1, by omega, by go_num, R⟩
      case measure => simp [intOf]; omega
    · obtain rfl : n = k := by omega
      clear hk hkm
      go_wp2
      go_end0
      obtain ⟨r1, r2, r3, r4⟩ := hinv
      rw [Nat.sub_self] at r3
      exact ⟨_, rfl, r1, r2, by simpa using r3, hbkr, hgr⟩
end Go.Proofs.YtcoidcbbdibnaaaDoor
