/-
  addProduct, subProduct: a product with one limb, added or taken away in place.
-/
import Derived.Test.YtcoidcbbdibnaaaDoorSub
namespace Go.Proofs.YtcoidcbbdibnaaaDoor
open Go.RowKit
set_option linter.unusedVariables false

def mpL (x d c : Int) : Int := addS (mulL x d) c 0
def mpS (x d c z : Int) : Int := addS z (mpL x d c) 0
def mpC (x d c z : Int) : Int := mulH x d + addC (mulL x d) c 0 + addC z (mpL x d c) 0
def msS (x d c z : Int) : Int := subS z (mpL x d c) 0
def msC (x d c z : Int) : Int := mulH x d + addC (mulL x d) c 0 + subC z (mpL x d c) 0

theorem prod_le {x d : Int} (hx : Lm x) (hd : Lm d) : 0 ≤ x * d ∧ x * d ≤ 340282366920938463426481119284349108225 := by
  unfold Lm at *; rw [Wd_eq] at *
  refine ⟨Int.mul_nonneg hx.1 hd.1, ?_⟩
  have := Int.mul_le_mul (show x ≤ 18446744073709551615 by omega) (show d ≤ 18446744073709551615 by omega) hd.1 (by omega)
  omega
theorem mulL_lm {x d : Int} : Lm (mulL x d) := by unfold Lm mulL; rw [Wd_eq]; omega
theorem mulH_lm {x d : Int} (hx : Lm x) (hd : Lm d) : Lm (mulH x d) := by
  have := prod_le hx hd
  unfold Lm mulH; rw [Wd_eq]; omega
theorem mpL_lm {x d c : Int} : Lm (mpL x d c) := addS_lm _ _ _
theorem mpS_lm {x d c z : Int} : Lm (mpS x d c z) := addS_lm _ _ _
theorem msS_lm {x d c z : Int} : Lm (msS x d c z) := subS_lm _ _ _
theorem mpC_all {x d c z : Int} (hx : Lm x) (hd : Lm d) (hc : Lm c) (hz : Lm z) : Lm (mpC x d c z) ∧ mpS x d c z + Wd * mpC x d c z = z + x * d + c := by
  have := prod_le hx hd
  unfold Lm mpC mpS mpL addS addC mulH mulL at *
  rw [Wd_eq] at *
  generalize x * d = p at *
  omega
theorem msC_all {x d c z : Int} (hx : Lm x) (hd : Lm d) (hc : Lm c) (hz : Lm z) : Lm (msC x d c z) ∧ msS x d c z + x * d + c = z + Wd * msC x d c z := by
  have := prod_le hx hd
  unfold Lm msC msS mpL subS subC addS addC mulH mulL at *
  rw [Wd_eq] at *
  generalize x * d = p at *
  omega
theorem carry_wrap {a b c : Int} (ha : Lm a) (hb : Cr b) (hc : Cr c) (h : Lm (a + b + c)) : IntKind.u64.wrap (IntKind.u64.wrap (a + b) + c) = a + b + c := by
  simp only [wrap_u64]; unfold Lm Cr at *; rw [Wd_eq] at *; omega
theorem int_nat {a b c d : Int} (ha : 0 ≤ a) (hb : 0 ≤ b) (hc : 0 ≤ c) (hd : 0 ≤ d) {x y : Int} (hx : 0 ≤ x) (hy : 0 ≤ y) (h : a + (Wd : Int) * b = c + x * y + d) : a.toNat + Wd * b.toNat = c.toNat + x.toNat * y.toNat + d.toNat := by
  obtain ⟨a, rfl⟩ := Int.eq_ofNat_of_zero_le ha
  obtain ⟨b, rfl⟩ := Int.eq_ofNat_of_zero_le hb
  obtain ⟨c, rfl⟩ := Int.eq_ofNat_of_zero_le hc
  obtain ⟨d, rfl⟩ := Int.eq_ofNat_of_zero_le hd
  obtain ⟨x, rfl⟩ := Int.eq_ofNat_of_zero_le hx
  obtain ⟨y, rfl⟩ := Int.eq_ofNat_of_zero_le hy
  simp only [Int.toNat_natCast]
  exact_mod_cast h

/-- A product under way. -/
def MulInv (W la : List Int) (d : Int) (k : Nat) (Wk : List Int) (c : Int) : Prop :=
  Wk.length = W.length ∧ Lim Wd Wk ∧ Lm c ∧ Wk[la.length]? = W[la.length]? ∧ vl Wd Wk + Wd ^ k * c.toNat = vl Wd W + d.toNat * vl Wd (la.take k)
theorem MulInv.zero {W la : List Int} {d : Int} (hW : Lim Wd W) : MulInv W la d 0 W 0 := ⟨rfl, hW, Lm_zero, rfl, by simp [vl]⟩
theorem MulInv.step {W la Wk : List Int} {d : Int} (hd : Lm d) (hla : Lim Wd la) {k : Nat} {c : Int} (h : MulInv W la d k Wk c) (hk : k < Wk.length) (hka : k < la.length) :
    MulInv W la d (k + 1) (Wk.set k (mpS la[k] d c Wk[k])) (mpC la[k] d c Wk[k]) := by
  obtain ⟨h1, h2, h3, h4, h5⟩ := h
  have hz : Lm Wk[k] := h2.get hk
  have hx : Lm la[k] := hla.get hka
  have hm := mpC_all hx hd h3 hz
  refine ⟨by simpa using h1, h2.set k mpS_lm, hm.1, by rw [List.getElem?_set_ne (by omega)]; exact h4, ?_⟩
  have e1 := vl_set Wd Wk k hk (mpS la[k] d c Wk[k])
  have hs : Lm (mpS la[k] d c Wk[k]) := mpS_lm
  generalize mpS la[k] d c Wk[k] = s at *
  generalize mpC la[k] d c Wk[k] = cc at *
  have e2 := int_nat hs.1 hm.1.1 hz.1 h3.1 hx.1 hd.1 hm.2
  rw [vl_take_succ Wd la k hka, Nat.pow_succ, Nat.mul_assoc]
  have e3 : Wd ^ k * (s.toNat + Wd * cc.toNat) = Wd ^ k * (Wk[k].toNat + la[k].toNat * d.toNat + c.toNat) := by rw [e2]
  have e4 : Wd ^ k * (la[k].toNat * d.toNat) = d.toNat * (Wd ^ k * la[k].toNat) := by rw [← Nat.mul_assoc, Nat.mul_comm]
  rw [Nat.mul_add, Nat.mul_add, Nat.mul_add, e4] at e3
  rw [Nat.mul_add d.toNat]
  omega
def SpdInv (W la : List Int) (d : Int) (k : Nat) (Wk : List Int) (c : Int) : Prop :=
  Wk.length = W.length ∧ Lim Wd Wk ∧ Lm c ∧ vl Wd Wk + d.toNat * vl Wd (la.take k) = vl Wd W + Wd ^ k * c.toNat
theorem SpdInv.zero {W la : List Int} {d : Int} (hW : Lim Wd W) : SpdInv W la d 0 W 0 := ⟨rfl, hW, Lm_zero, by simp [vl]⟩
theorem SpdInv.step {W la Wk : List Int} {d : Int} (hd : Lm d) (hla : Lim Wd la) {k : Nat} {c : Int} (h : SpdInv W la d k Wk c) (hk : k < Wk.length) (hka : k < la.length) :
    SpdInv W la d (k + 1) (Wk.set k (msS la[k] d c Wk[k])) (msC la[k] d c Wk[k]) := by
  obtain ⟨h1, h2, h3, h5⟩ := h
  have hz : Lm Wk[k] := h2.get hk
  have hx : Lm la[k] := hla.get hka
  have hm := msC_all hx hd h3 hz
  refine ⟨by simpa using h1, h2.set k msS_lm, hm.1, ?_⟩
  have e1 := vl_set Wd Wk k hk (msS la[k] d c Wk[k])
  have hs : Lm (msS la[k] d c Wk[k]) := msS_lm
  generalize msS la[k] d c Wk[k] = s at *
  generalize msC la[k] d c Wk[k] = cc at *
  have e2 := int_nat hz.1 hm.1.1 hs.1 h3.1 hx.1 hd.1 hm.2.symm
  rw [vl_take_succ Wd la k hka, Nat.pow_succ, Nat.mul_assoc]
  have e3 : Wd ^ k * (Wk[k].toNat + Wd * cc.toNat) = Wd ^ k * (s.toNat + la[k].toNat * d.toNat + c.toNat) := by rw [e2]
  have e4 : Wd ^ k * (la[k].toNat * d.toNat) = d.toNat * (Wd ^ k * la[k].toNat) := by rw [← Nat.mul_assoc, Nat.mul_comm]
  rw [Nat.mul_add, Nat.mul_add, Nat.mul_add, e4] at e3
  rw [Nat.mul_add d.toNat]
  omega

def MulRel (w : World) (g : Nat) (P W S la : List Int) (d : Int) (cy : Value) (k : Nat) (wr : World) : Prop :=
  ∃ Wk c, cy = .int .u64 c ∧ MulInv W la d k Wk c ∧ Bk wr g (P ++ (Wk ++ S)) ∧ w.grownBy wr (some g)
def MulPost (w : World) (g : Nat) (P W S la : List Int) (d : Int) (e : Ending) (w' : World) : Prop :=
  ∃ W', e = .returned (.tuple #[]) ∧ W'.length = W.length ∧ Lim Wd W' ∧ vl Wd W' = vl Wd W + d.toNat * vl Wd la ∧ Bk w' g (P ++ (W' ++ S)) ∧ w.grownBy w' (some g)
theorem MulInv.last {W la Wk : List Int} {d c : Int} {m : Nat} (h : MulInv W la d m Wk c) (hm : la.length = m) (hl : W.length = m + 1) (hk : m < Wk.length) (h0 : W[la.length]? = some 0) :
    (Wk.set m c).length = W.length ∧ Lim Wd (Wk.set m c) ∧ vl Wd (Wk.set m c) = vl Wd W + d.toNat * vl Wd la := by
  obtain ⟨h1, h2, h3, h4, h5⟩ := h
  refine ⟨by simpa using h1, h2.set _ h3, ?_⟩
  have e1 := vl_set Wd Wk m hk c
  subst hm
  have e2 : Wk[la.length] = 0 := by
    rw [h0, List.getElem?_eq_getElem hk] at h4
    injection h4
  rw [e2] at e1
  rw [List.take_of_length_le (Nat.le_refl _)] at h5
  have e3 : Wd ^ la.length * (0 : Int).toNat = 0 := by simp
  omega

set_option maxHeartbeats 1000000 in
theorem addProduct_any (g off n c : Nat) (A : Option Addr) (m ca : Nat) (P W S la : List Int) (d : Int) (w : World) (B : Nat) (hP : P.length = off) (hWn : W.length = n) (hW : Lim Wd W) (hbig : n ≤ 17592186044416)
    (hbk : Bk w g (P ++ (W ++ S))) (h : Rd w B A m ca la) (hB : B ≤ g) (hmn : m + 1 = n) (hd : Lm d) (htop : W[la.length]? = some 0) :
    Calls Tryd.prog 109 #[.slice (some ⟨g, off, none⟩) n c, .slice A m ca, .int .u64 d] w (MulPost w g P W S la d) := by
  have HP := Lib.hid hP; clear hP
  have HW := Lib.hid hWn; clear hWn
  have H := Lib.hid h.len
  have HT := Lib.hid htop; clear htop
  have HM := Lib.hid hmn
  have hmn' : m < n := by omega
  clear hmn
  have hcap := h.cap
  have hbig2 := h.big
  go_enter Tryd.func109, Tryd.ntmps109
  go_wp2
  go_loopw [6, 7, 8, 9, 10, 11, 12, 15] (fun cy _ _ _ _ _ _ i wr => ∃ k : Nat, k ≤ m ∧ i = .int .i64 k ∧ MulRel w g P W S la d cy k wr) (fun _ _ _ _ _ _ _ i _ => m - (intOf i).toNat)
  case atStart => exact ⟨0, Nat.zero_le _, rfl, W, 0, rfl, MulInv.zero hW, hbk, ⟨rfl, rfl, rfl, Nat.le_refl _, fun _ _ _ => rfl⟩⟩
  case round =>
    obtain ⟨k, hk, rfl, Wk, cy, rfl, hinv, hbkr, hgr⟩ := hrel
    by_cases hkm : k < m
    · obtain ⟨b, of, rfl, hb, hc⟩ := h.at_ (by omega)
      have hkl : k < la.length := by have := H.out; omega
      have hkW : k < Wk.length := by have := HW.out; have := hinv.1; omega
      have hc1 := hbkr.wcell HP.out hkW
      have hf1 := hbkr.frozen (off + k)
      have hc2 : wr.cell? ⟨b, of + k, none⟩ = _ := (World.cell?_of_block (hgr.block b (by have := hbk.lt; omega) (fun e => by injection e with e; omega))).trans (hc k hkl)
      have hz : Lm Wk[k] := hinv.2.1.get hkW
      have hx : Lm la[k] := h.lim.get hkl
      have hst := hinv.step hd h.lim hkW hkl
      have hcl := hinv.2.2.1
      have hbk' := (hbkr.wset HP.out hkW (mpS la[k] d cy Wk[k]))
      clear hc
      generalize hze : Wk[k] = z at hc1 hz hst hbk'
      have Hz := Lib.hid hze; clear hze
      generalize hxe : la[k] = x at hc2 hx hst hbk'
      have Hx := Lib.hid hxe; clear hxe
      have hkn : (k : Int) < n := by omega
      have R : MulRel w g P W S la d (.int .u64 (mpC x d cy z)) (k + 1) (wr.setCell ⟨g, off + k, none⟩ (.int .u64 (mpS x d cy z))) := ⟨_, _, rfl, hst, hbk', grownBy_trans hgr (grownBy_set _ _ _ _)⟩
      have hlmC := hst.2.2.1
      clear hst hbk' hinv hbkr
      go_wp2_with fail
      refine (mulLimb_any x d _ hx hd).mono ?_
      rintro e w' ⟨rfl, rfl⟩
      go_wp2_with fail
      refine (addLimb_any (mulL x d) cy 0 _ mulL_lm hcl Cr_zero).mono ?_
      rintro e w' ⟨rfl, rfl⟩
      go_wp2_with fail
      refine (addLimb_any z (addS (mulL x d) cy 0) 0 _ hz (addS_lm _ _ _) Cr_zero).mono ?_
      rintro e w' ⟨rfl, rfl⟩
      go_wp2
      rw [carry_wrap (mulH_lm hx hd) (addC_cr mulL_lm hcl Cr_zero) (addC_cr hz (addS_lm _ _ _) Cr_zero) hlmC]
      go_roundw
      case rel => exact ⟨k + 1, by omega, by go_num, R⟩
      case measure => simp [intOf]; omega
    · obtain rfl : m = k := by omega
      clear hk hkm
      have hkW : m < Wk.length := by have := HW.out; have := hinv.1; omega
      have hc1 := hbkr.wcell HP.out hkW
      have hf1 := hbkr.frozen (off + m)
      go_wp2
      go_end0
      obtain ⟨r1, r2, r3⟩ := hinv.last H.out (by have := HW.out; have := HM.out; omega) hkW HT.out
      exact ⟨_, rfl, r1, r2, r3, hbkr.wset HP.out hkW cy, grownBy_trans hgr (grownBy_set _ _ _ _)⟩

def SpdRel (w : World) (g : Nat) (P W S la : List Int) (d : Int) (cy : Value) (k : Nat) (wr : World) : Prop :=
  ∃ Wk c, cy = .int .u64 c ∧ SpdInv W la d k Wk c ∧ Bk wr g (P ++ (Wk ++ S)) ∧ w.grownBy wr (some g)
def SpdPost (w : World) (g : Nat) (P W S la : List Int) (d : Int) (e : Ending) (w' : World) : Prop :=
  ∃ W' c, e = .returned (.int .u64 c) ∧ Cr c ∧ W'.length = W.length ∧ Lim Wd W' ∧ vl Wd W' + d.toNat * vl Wd la = vl Wd W + Wd ^ W.length * c.toNat ∧ Bk w' g (P ++ (W' ++ S)) ∧ w.grownBy w' (some g)
theorem SpdInv.last {W la Wk : List Int} {d c : Int} {m : Nat} (h : SpdInv W la d m Wk c) (hm : la.length = m) (hl : W.length = m + 1) (hk : m < Wk.length) :
    (Wk.set m (subS Wk[m] c 0)).length = W.length ∧ Lim Wd (Wk.set m (subS Wk[m] c 0)) ∧ vl Wd (Wk.set m (subS Wk[m] c 0)) + d.toNat * vl Wd la = vl Wd W + Wd ^ W.length * (subC Wk[m] c 0).toNat := by
  obtain ⟨h1, h2, h3, h5⟩ := h
  refine ⟨by simpa using h1, h2.set _ (subS_lm _ _ _), ?_⟩
  have e1 := vl_set Wd Wk m hk (subS Wk[m] c 0)
  have e2 := sub_id (h2.get hk) h3 Cr_zero
  rw [List.take_of_length_le (by omega)] at h5
  rw [hl, Nat.pow_succ, Nat.mul_assoc]
  generalize subS Wk[m] c 0 = s at *
  generalize subC Wk[m] c 0 = cc at *
  have e3 : Wd ^ m * (s.toNat + c.toNat + (0 : Int).toNat) = Wd ^ m * (Wk[m].toNat + Wd * cc.toNat) := by rw [e2]
  simp only [Nat.mul_add] at e3
  have e4 : Wd ^ m * (0 : Int).toNat = 0 := by simp
  omega

set_option maxHeartbeats 1000000 in
theorem subProduct_any (g off n c : Nat) (A : Option Addr) (m ca : Nat) (P W S la : List Int) (d : Int) (w : World) (B : Nat) (hP : P.length = off) (hWn : W.length = n) (hW : Lim Wd W) (hbig : n ≤ 17592186044416)
    (hbk : Bk w g (P ++ (W ++ S))) (h : Rd w B A m ca la) (hB : B ≤ g) (hmn : m + 1 = n) (hd : Lm d) :
    Calls Tryd.prog 121 #[.slice (some ⟨g, off, none⟩) n c, .slice A m ca, .int .u64 d] w (SpdPost w g P W S la d) := by
  have HP := Lib.hid hP; clear hP
  have HW := Lib.hid hWn; clear hWn
  have H := Lib.hid h.len
  have HM := Lib.hid hmn
  have hmn' : m < n := by omega
  clear hmn
  have hcap := h.cap
  have hbig2 := h.big
  go_enter Tryd.func121, Tryd.ntmps121
  go_wp2
  go_loopw [7, 8, 9, 10, 11, 12, 13, 18] (fun cy _ _ _ _ _ _ i wr => ∃ k : Nat, k ≤ m ∧ i = .int .i64 k ∧ SpdRel w g P W S la d cy k wr) (fun _ _ _ _ _ _ _ i _ => m - (intOf i).toNat)
  case atStart => exact ⟨0, Nat.zero_le _, rfl, W, 0, rfl, SpdInv.zero hW, hbk, ⟨rfl, rfl, rfl, Nat.le_refl _, fun _ _ _ => rfl⟩⟩
  case round =>
    obtain ⟨k, hk, rfl, Wk, cy, rfl, hinv, hbkr, hgr⟩ := hrel
    by_cases hkm : k < m
    · obtain ⟨b, of, rfl, hb, hc⟩ := h.at_ (by omega)
      have hkl : k < la.length := by have := H.out; omega
      have hkW : k < Wk.length := by have := HW.out; have := hinv.1; omega
      have hc1 := hbkr.wcell HP.out hkW
      have hf1 := hbkr.frozen (off + k)
      have hc2 : wr.cell? ⟨b, of + k, none⟩ = _ := (World.cell?_of_block (hgr.block b (by have := hbk.lt; omega) (fun e => by injection e with e; omega))).trans (hc k hkl)
      have hz : Lm Wk[k] := hinv.2.1.get hkW
      have hx : Lm la[k] := h.lim.get hkl
      have hst := hinv.step hd h.lim hkW hkl
      have hcl := hinv.2.2.1
      have hbk' := (hbkr.wset HP.out hkW (msS la[k] d cy Wk[k]))
      clear hc
      generalize hze : Wk[k] = z at hc1 hz hst hbk'
      have Hz := Lib.hid hze; clear hze
      generalize hxe : la[k] = x at hc2 hx hst hbk'
      have Hx := Lib.hid hxe; clear hxe
      have hkn : (k : Int) < n := by omega
      have R : SpdRel w g P W S la d (.int .u64 (msC x d cy z)) (k + 1) (wr.setCell ⟨g, off + k, none⟩ (.int .u64 (msS x d cy z))) := ⟨_, _, rfl, hst, hbk', grownBy_trans hgr (grownBy_set _ _ _ _)⟩
      have hlmC := hst.2.2.1
      clear hst hbk' hinv hbkr
      go_wp2_with fail
      refine (mulLimb_any x d _ hx hd).mono ?_
      rintro e w' ⟨rfl, rfl⟩
      go_wp2_with fail
      refine (addLimb_any (mulL x d) cy 0 _ mulL_lm hcl Cr_zero).mono ?_
      rintro e w' ⟨rfl, rfl⟩
      go_wp2_with fail
      refine (subLimb_any z (addS (mulL x d) cy 0) 0 _ hz (addS_lm _ _ _) Cr_zero).mono ?_
      rintro e w' ⟨rfl, rfl⟩
      go_wp2
      rw [carry_wrap (mulH_lm hx hd) (addC_cr mulL_lm hcl Cr_zero) (subC_cr hz (addS_lm _ _ _) Cr_zero) hlmC]
      go_roundw
      case rel => exact ⟨k + 1, by omega, by go_num, R⟩
      case measure => simp [intOf]; omega
    · obtain rfl : m = k := by omega
      clear hk hkm
      have hkW : m < Wk.length := by have := HW.out; have := hinv.1; omega
      have hc1 := hbkr.wcell HP.out hkW
      have hf1 := hbkr.frozen (off + m)
      have hz : Lm Wk[m] := hinv.2.1.get hkW
      have hcl := hinv.2.2.1
      have hl := hinv.last H.out (by have := HW.out; have := HM.out; omega) hkW
      have hbk' := (hbkr.wset HP.out hkW (subS Wk[m] cy 0))
      generalize hze : Wk[m] = z at hc1 hz hl hbk'
      have Hz := Lib.hid hze; clear hze
      have HL := Lib.hid hl; clear hl
      go_wp2_with fail
      refine (subLimb_any z cy 0 _ hz hcl Cr_zero).mono ?_
      rintro e w' ⟨rfl, rfl⟩
      go_wp2
      go_ret
      obtain ⟨r1, r2, r3⟩ := HL.out
      exact ⟨_, _, rfl, subC_cr hz hcl Cr_zero, r1, r2, r3, hbk', grownBy_trans hgr (grownBy_set _ _ _ _)⟩
end Go.Proofs.YtcoidcbbdibnaaaDoor
