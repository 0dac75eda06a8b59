/-
  addTo, subFrom: sums and differences in place.
-/
import Derived.Test.YtcoidcbbdibnaaaDoorSame
import Derived.BigRegion
import Derived.Deep.RegionWith
import Derived.Deep.RegionHeld3
namespace Go.Proofs.YtcoidcbbdibnaaaDoor
open Go.RowKit
set_option linter.unusedVariables false

theorem win_get {P W S : List Int} {k : Nat} (hk : k < W.length) : (P ++ (W ++ S))[P.length + k]'(by simp; omega) = W[k] := by
  rw [List.getElem_append_right (by omega), List.getElem_append_left (by omega)]
  congr 1
  omega
theorem win_set {P W S : List Int} {k : Nat} (hk : k < W.length) (x : Int) : (P ++ (W ++ S)).set (P.length + k) x = P ++ (W.set k x ++ S) := by
  rw [List.set_append_right _ _ (by omega), List.set_append_left _ _ (by omega)]
  congr 3
  omega
theorem Bk.wcell {w : World} {g off : Nat} {P W S : List Int} (h : Bk w g (P ++ (W ++ S))) (hP : P.length = off) {k : Nat} (hk : k < W.length) : w.cell? ⟨g, off + k, none⟩ = some (.int .u64 W[k]) := by
  subst hP
  rw [h.cell (P.length + k) (by simp; omega), win_get hk]
theorem Bk.wset {w : World} {g off : Nat} {P W S : List Int} (h : Bk w g (P ++ (W ++ S))) (hP : P.length = off) {k : Nat} (hk : k < W.length) (x : Int) : Bk (w.setCell ⟨g, off + k, none⟩ (.int .u64 x)) g (P ++ (W.set k x ++ S)) := by
  subst hP
  have := h.set (P.length + k) x
  rwa [win_set hk] at this
theorem Bk.drew {w : World} {g : Nat} {l : List Int} (h : Bk w g l) : Bk w.drew g l := h
theorem Bk.drewN {w : World} {g : Nat} {l : List Int} (h : Bk w g l) (n : Nat) : Bk (w.drewN n) g l := h

/-- A sum under way: the first k limbs of lb have been added; c is carried. -/
def AddInv (W lb : List Int) (k : Nat) (Wk : List Int) (c : Int) : Prop :=
  Wk.length = W.length ∧ Lim Wd Wk ∧ Cr c ∧ vl Wd Wk + Wd ^ k * c.toNat = vl Wd W + vl Wd (lb.take k)

theorem AddInv.zero {W lb : List Int} (hW : Lim Wd W) : AddInv W lb 0 W 0 := ⟨rfl, hW, Cr_zero, by simp [vl]⟩

theorem addS_lm (x y c : Int) : Lm (addS x y c) := by unfold Lm addS; rw [Wd_eq]; omega
theorem subS_lm (x y c : Int) : Lm (subS x y c) := by unfold Lm subS; rw [Wd_eq]; omega
theorem addC_cr {x y c : Int} (hx : Lm x) (hy : Lm y) (hc : Cr c) : Cr (addC x y c) := by unfold Lm Cr addC at *; rw [Wd_eq] at *; omega
theorem subC_cr {x y c : Int} (hx : Lm x) (hy : Lm y) (hc : Cr c) : Cr (subC x y c) := by unfold Lm Cr subC at *; rw [Wd_eq] at *; omega
theorem add_id {x y c : Int} (hx : Lm x) (hy : Lm y) (hc : Cr c) : (addS x y c).toNat + Wd * (addC x y c).toNat = x.toNat + y.toNat + c.toNat := by
  unfold Lm Cr addC addS at *; rw [Wd_eq] at *; omega
theorem sub_id {x y c : Int} (hx : Lm x) (hy : Lm y) (hc : Cr c) : (subS x y c).toNat + y.toNat + c.toNat = x.toNat + Wd * (subC x y c).toNat := by
  unfold Lm Cr subC subS at *; rw [Wd_eq] at *; omega

theorem AddInv.step {W lb Wk : List Int} {k : Nat} {c y : Int} (h : AddInv W lb k Wk c) (hk : k < Wk.length) (hy : Lm y) (hly : vl Wd (lb.take (k + 1)) = vl Wd (lb.take k) + Wd ^ k * y.toNat) :
    AddInv W lb (k + 1) (Wk.set k (addS Wk[k] y c)) (addC Wk[k] y c) := by
  obtain ⟨h1, h2, h3, h4⟩ := h
  have hx : Lm Wk[k] := h2.get hk
  refine ⟨by simpa using h1, h2.set k (addS_lm _ _ _), addC_cr hx hy h3, ?_⟩
  have e1 := vl_set Wd Wk k hk (addS Wk[k] y c)
  have e2 := add_id hx hy h3
  generalize addS Wk[k] y c = s at *
  generalize addC Wk[k] y c = d at *
  rw [hly, Nat.pow_succ, Nat.mul_assoc]
  have e3 : Wd ^ k * (s.toNat + Wd * d.toNat) = Wd ^ k * (Wk[k].toNat + y.toNat + c.toNat) := by rw [e2]
  rw [Nat.mul_add, Nat.mul_add, Nat.mul_add] at e3
  omega
theorem take_end {lb : List Int} {m k : Nat} (hm : lb.length = m) (hk : m ≤ k) : lb.take k = lb := List.take_of_length_le (by omega)

/-- The first loop's relation, and the second's. -/
def AddRel (w : World) (g : Nat) (P W S lb : List Int) (cy : Value) (k : Nat) (wr : World) : Prop :=
  ∃ Wk c, cy = .int .u64 c ∧ AddInv W lb k Wk c ∧ Bk wr g (P ++ (Wk ++ S)) ∧ w.grownBy wr (some g)

def AddPost (w : World) (g : Nat) (P W S lb : List Int) (e : Ending) (w' : World) : Prop :=
  ∃ W' c, e = .returned (.int .u64 c) ∧ W'.length = W.length ∧ Lim Wd W' ∧ Cr c ∧ vl Wd W' + Wd ^ W.length * c.toNat = vl Wd W + vl Wd lb ∧ Bk w' g (P ++ (W' ++ S)) ∧ w.grownBy w' (some g)

set_option maxHeartbeats 1000000 in
theorem addTo_any (g off n c : Nat) (A : Option Addr) (m cb : Nat) (P W S lb : List Int) (w : World) (B : Nat) (hP : P.length = off) (hWn : W.length = n) (hW : Lim Wd W) (hbig : n ≤ 17592186044416)
    (hbk : Bk w g (P ++ (W ++ S))) (h : Rd w B A m cb lb) (hB : B ≤ g) (hmn : m ≤ n) :
    Calls Tryd.prog 100 #[.slice (some ⟨g, off, none⟩) n c, .slice A m cb] w (AddPost w g P W S lb) := by
  have HP := Lib.hid hP; clear hP
  have HW := Lib.hid hWn; clear hWn
  have H := Lib.hid h.len
  have hcap := h.cap
  have hbig2 := h.big
  go_enter Tryd.func100, Tryd.ntmps100
  go_wp2
  go_loopw [5, 6, 10] (fun cy _ i wr => ∃ k : Nat, k ≤ m ∧ i = .int .i64 k ∧ AddRel w g P W S lb cy k wr) (fun _ _ i _ => m - (intOf i).toNat)
  case atStart => exact ⟨0, Nat.zero_le _, rfl, W, 0, rfl, AddInv.zero hW, hbk, ⟨rfl, rfl, rfl, Nat.le_refl _, fun _ _ _ => rfl⟩⟩
  case round =>
    obtain ⟨k, hk, rfl, Wk, cy, rfl, hinv, hbkr, hgr⟩ := hrel
    by_cases hkm : k < m
    · obtain ⟨b, of, rfl, hb, hc⟩ := h.at_ (by omega)
      have hkl : k < lb.length := by have := H.out; omega
      have hkW : k < Wk.length := by have := HW.out; have := hinv.1; omega
      have hc1 := hbkr.wcell HP.out hkW
      have hf1 := hbkr.frozen (off + k)
      have hc2 : wr.cell? ⟨b, of + k, none⟩ = _ := (World.cell?_of_block (hgr.block b (by have := hbk.lt; omega) (fun e => by injection e with e; omega))).trans (hc k hkl)
      have hx : Lm Wk[k] := hinv.2.1.get hkW
      have hy : Lm lb[k] := h.lim.get hkl
      have hst := hinv.step hkW hy (vl_take_succ Wd lb k hkl)
      have hcr := hinv.2.2.1
      have hcr' := hst.2.2.1
      have hbk' := (hbkr.wset HP.out hkW (addS Wk[k] lb[k] cy))
      clear hc
      generalize hxe : Wk[k] = x at hc1 hx hst hcr' hbk'
      have Hx := Lib.hid hxe; clear hxe
      generalize hye : lb[k] = y at hc2 hy hst hcr' hbk'
      have Hy := Lib.hid hye; clear hye
      have hkn : (k : Int) < n := by omega
      have R : AddRel w g P W S lb (.int .u64 (addC x y cy)) (k + 1) (wr.setCell ⟨g, off + k, none⟩ (.int .u64 (addS x y cy))).drew := ⟨_, _, rfl, hst, hbk', grownBy_drew (grownBy_trans hgr (grownBy_set _ _ _ _))⟩
      clear hst hbk' hinv hbkr
      go_wp2
      go_region_with ((go_at_call 114; refine (addLimb_any x y cy _ hx hy hcr).mono ?_; rintro e w' ⟨rfl, rfl⟩))
      all_goals go_wp2
      all_goals go_roundw
      all_goals first | exact ⟨k + 1, by omega, by go_num, R⟩ | (simp [intOf]; omega)
    · obtain rfl : m = k := by omega
      clear hk hkm
      go_wp2
      go_loopw [5, 7] (fun cy i wr => ∃ k : Nat, m ≤ k ∧ k ≤ n ∧ i = .int .i64 k ∧ AddRel w g P W S lb cy k wr) (fun _ i _ => n - (intOf i).toNat)
      case atStart => exact ⟨m, Nat.le_refl _, hmn, rfl, Wk, cy, rfl, hinv, hbkr, hgr⟩
      case round =>
        clear hinv hbkr hgr
        obtain ⟨j, hj, hjn, rfl, Wj, cj, rfl, hinv, hbkr, hgr⟩ := hrel
        have hfin : vl Wd Wj + Wd ^ j * cj.toNat = vl Wd W + vl Wd lb := by have := hinv.2.2.2; rwa [take_end H.out hj] at this
        have Hfin := Lib.hid hfin; clear hfin
        rcases hinv.2.2.1 with h0 | h0
        · subst h0
          have hb0 : ((0 : Int) != 0) = false := by simp
          go_wp2
          go_ret
          exact ⟨Wj, 0, rfl, hinv.1, hinv.2.1, Cr_zero, by have := Hfin.out; simpa using this, hbkr, hgr⟩
        · subst h0
          have hb0 : ((1 : Int) != 0) = true := by simp
          by_cases hjn2 : j < n
          · have hjW : j < Wj.length := by have := HW.out; have := hinv.1; omega
            have hc1 := hbkr.wcell HP.out hjW
            have hf1 := hbkr.frozen (off + j)
            have hx : Lm Wj[j] := hinv.2.1.get hjW
            have hst := hinv.step hjW Lm_zero (by rw [take_end H.out hj, take_end H.out (by omega)]; simp)
            have hbk' := (hbkr.wset HP.out hjW (addS Wj[j] 0 1))
            generalize hxe : Wj[j] = x at hc1 hx hst hbk'
            have Hx := Lib.hid hxe; clear hxe
            have R : AddRel w g P W S lb (.int .u64 (addC x 0 1)) (j + 1) (wr.setCell ⟨g, off + j, none⟩ (.int .u64 (addS x 0 1))) := ⟨_, _, rfl, hst, hbk', grownBy_trans hgr (grownBy_set _ _ _ _)⟩
            clear hst hbk' hinv hbkr
            go_wp2_with (go_at_call 114; refine (addLimb_any x 0 1 _ hx Lm_zero (.inr rfl)).mono ?_; rintro e w' ⟨rfl, rfl⟩)
            go_roundw
            case rel => exact ⟨j + 1, by omega, by omega, by go_num, R⟩
            case measure => simp [intOf]; omega
          · obtain rfl : n = j := by omega
            go_wp2
            go_ret
            exact ⟨Wj, 1, rfl, hinv.1, hinv.2.1, .inr rfl, by have := Hfin.out; rwa [HW.out], hbkr, hgr⟩
end Go.Proofs.YtcoidcbbdibnaaaDoor
