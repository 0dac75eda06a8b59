/-
  subFrom: a difference in place.
-/
import Derived.Test.YtcoidcbbdibnaaaDoorAdd
namespace Go.Proofs.YtcoidcbbdibnaaaDoor
open Go.RowKit
set_option linter.unusedVariables false

/-- A difference under way: the first k limbs of lb have been taken away; c is borrowed. -/
def SubInv (W lb : List Int) (k : Nat) (Wk : List Int) (c : Int) : Prop :=
  Wk.length = W.length ∧ Lim Wd Wk ∧ Cr c ∧ vl Wd Wk + vl Wd (lb.take k) = vl Wd W + Wd ^ k * c.toNat
theorem SubInv.zero {W lb : List Int} (hW : Lim Wd W) : SubInv W lb 0 W 0 := ⟨rfl, hW, Cr_zero, by simp [vl]⟩
theorem SubInv.step {W lb Wk : List Int} {k : Nat} {c y : Int} (h : SubInv W lb k Wk c) (hk : k < Wk.length) (hy : Lm y) (hly : vl Wd (lb.take (k + 1)) = vl Wd (lb.take k) + Wd ^ k * y.toNat) :
    SubInv W lb (k + 1) (Wk.set k (subS Wk[k] y c)) (subC Wk[k] y c) := by
  obtain ⟨h1, h2, h3, h4⟩ := h
  have hx : Lm Wk[k] := h2.get hk
  refine ⟨by simpa using h1, h2.set k (subS_lm _ _ _), subC_cr hx hy h3, ?_⟩
  have e1 := vl_set Wd Wk k hk (subS Wk[k] y c)
  have e2 := sub_id hx hy h3
  generalize subS Wk[k] y c = s at *
  generalize subC Wk[k] y c = d at *
  rw [hly, Nat.pow_succ, Nat.mul_assoc]
  have e3 : Wd ^ k * (s.toNat + y.toNat + c.toNat) = Wd ^ k * (Wk[k].toNat + Wd * d.toNat) := by rw [e2]
  rw [Nat.mul_add, Nat.mul_add, Nat.mul_add] at e3
  omega
def SubRel (w : World) (g : Nat) (P W S lb : List Int) (cy : Value) (k : Nat) (wr : World) : Prop :=
  ∃ Wk c, cy = .int .u64 c ∧ SubInv W lb k Wk c ∧ Bk wr g (P ++ (Wk ++ S)) ∧ w.grownBy wr (some g)
def SubPost (w : World) (g : Nat) (P W S lb : List Int) (e : Ending) (w' : World) : Prop :=
  ∃ W', e = .returned (.tuple #[]) ∧ W'.length = W.length ∧ Lim Wd W' ∧ vl Wd W' + vl Wd lb = vl Wd W ∧ Bk w' g (P ++ (W' ++ S)) ∧ w.grownBy w' (some g)

set_option maxHeartbeats 1000000 in
theorem subFrom_any (g off n c : Nat) (A : Option Addr) (m cb : Nat) (P W S lb : List Int) (w : World) (B : Nat) (hP : P.length = off) (hWn : W.length = n) (hW : Lim Wd W) (hbig : n ≤ 17592186044416)
    (hbk : Bk w g (P ++ (W ++ S))) (h : Rd w B A m cb lb) (hB : B ≤ g) (hmn : m ≤ n) (hge : vl Wd lb ≤ vl Wd W) :
    Calls Tryd.prog 101 #[.slice (some ⟨g, off, none⟩) n c, .slice A m cb] w (SubPost w g P W S lb) := by
  have HP := Lib.hid hP; clear hP
  have HW := Lib.hid hWn; clear hWn
  have H := Lib.hid h.len
  have hcap := h.cap
  have hbig2 := h.big
  go_enter Tryd.func101, Tryd.ntmps101
  go_wp2
  go_loopw [4, 5, 9] (fun cy _ i wr => ∃ k : Nat, k ≤ m ∧ i = .int .i64 k ∧ SubRel w g P W S lb cy k wr) (fun _ _ i _ => m - (intOf i).toNat)
  case atStart => exact ⟨0, Nat.zero_le _, rfl, W, 0, rfl, SubInv.zero hW, hbk, ⟨rfl, rfl, rfl, Nat.le_refl _, fun _ _ _ => rfl⟩⟩
  case round =>
    obtain ⟨k, hk, rfl, Wk, cy, rfl, hinv, hbkr, hgr⟩ := hrel
    by_cases hkm : k < m
    · obtain ⟨b, of, rfl, hb, hc⟩ := h.at_ (by omega)
      have hkl : k < lb.length := by have := H.out; omega
      have hkW : k < Wk.length := by have := HW.out; have := hinv.1; omega
      have hc1 := hbkr.wcell HP.out hkW
      have hf1 := hbkr.frozen (off + k)
      have hc2 : wr.cell? ⟨b, of + k, none⟩ = _ := (World.cell?_of_block (hgr.block b (by have := hbk.lt; omega) (fun e => by injection e with e; omega))).trans (hc k hkl)
      have hx : Lm Wk[k] := hinv.2.1.get hkW
      have hy : Lm lb[k] := h.lim.get hkl
      have hst := hinv.step hkW hy (vl_take_succ Wd lb k hkl)
      have hcr := hinv.2.2.1
      have hcr' := hst.2.2.1
      have hbk' := (hbkr.wset HP.out hkW (subS Wk[k] lb[k] cy))
      clear hc
      generalize hxe : Wk[k] = x at hc1 hx hst hcr' hbk'
      have Hx := Lib.hid hxe; clear hxe
      generalize hye : lb[k] = y at hc2 hy hst hcr' hbk'
      have Hy := Lib.hid hye; clear hye
      have hkn : (k : Int) < n := by omega
      have R : SubRel w g P W S lb (.int .u64 (subC x y cy)) (k + 1) (wr.setCell ⟨g, off + k, none⟩ (.int .u64 (subS x y cy))).drew := ⟨_, _, rfl, hst, hbk', grownBy_drew (grownBy_trans hgr (grownBy_set _ _ _ _))⟩
      clear hst hbk' hinv hbkr
      go_wp2
      go_region_with ((go_at_call 115; refine (subLimb_any x y cy _ hx hy hcr).mono ?_; rintro e w' ⟨rfl, rfl⟩))
      all_goals go_wp2
      all_goals go_roundw
      all_goals first | exact ⟨k + 1, by omega, by go_num, R⟩ | (simp [intOf]; omega)
    · obtain rfl : m = k := by omega
      clear hk hkm
      go_wp2
      go_loopw [4, 6] (fun cy i wr => ∃ k : Nat, m ≤ k ∧ k ≤ n ∧ i = .int .i64 k ∧ SubRel w g P W S lb cy k wr) (fun _ i _ => n - (intOf i).toNat)
      case atStart => exact ⟨m, Nat.le_refl _, hmn, rfl, Wk, cy, rfl, hinv, hbkr, hgr⟩
      case round =>
        clear hinv hbkr hgr
        obtain ⟨j, hj, hjn, rfl, Wj, cj, rfl, hinv, hbkr, hgr⟩ := hrel
        have hfin : vl Wd Wj + vl Wd lb = vl Wd W + Wd ^ j * cj.toNat := by have := hinv.2.2.2; rwa [take_end H.out hj] at this
        have Hfin := Lib.hid hfin; clear hfin
        rcases hinv.2.2.1 with h0 | h0
        · subst h0
          have hb0 : ((0 : Int) != 0) = false := by simp
          go_wp2
          go_end0
          exact ⟨Wj, rfl, hinv.1, hinv.2.1, by have := Hfin.out; simpa using this, hbkr, hgr⟩
        · subst h0
          have hb0 : ((1 : Int) != 0) = true := by simp
          by_cases hjn2 : j < n
          · have hjW : j < Wj.length := by have := HW.out; have := hinv.1; omega
            have hc1 := hbkr.wcell HP.out hjW
            have hf1 := hbkr.frozen (off + j)
            have hx : Lm Wj[j] := hinv.2.1.get hjW
            have hst := hinv.step hjW Lm_zero (by rw [take_end H.out hj, take_end H.out (by omega)]; simp)
            have hbk' := (hbkr.wset HP.out hjW (subS Wj[j] 0 1))
            generalize hxe : Wj[j] = x at hc1 hx hst hbk'
            have Hx := Lib.hid hxe; clear hxe
            have R : SubRel w g P W S lb (.int .u64 (subC x 0 1)) (j + 1) (wr.setCell ⟨g, off + j, none⟩ (.int .u64 (subS x 0 1))) := ⟨_, _, rfl, hst, hbk', grownBy_trans hgr (grownBy_set _ _ _ _)⟩
            clear hst hbk' hinv hbkr
            go_wp2_with (go_at_call 115; refine (subLimb_any x 0 1 _ hx Lm_zero (.inr rfl)).mono ?_; rintro e w' ⟨rfl, rfl⟩)
            go_roundw
            case rel => exact ⟨j + 1, by omega, by omega, by go_num, R⟩
            case measure => simp [intOf]; omega
          · obtain rfl : n = j := by omega
            exfalso
            have h1 := Hfin.out
            have h2 := vl_lt hinv.2.1
            rw [hinv.1, HW.out] at h2
            have h3 : Wd ^ n * (1 : Int).toNat = Wd ^ n := by simp
            omega
end Go.Proofs.YtcoidcbbdibnaaaDoor
