/-
  zed: readDigits.
-/
import Derived.Test.YtcoidcbbdibnaaaZread
namespace Go.Proofs.Ytcoidcbbdibnaaa
open Go.RowKit
set_option linter.unusedVariables false

theorem ext_all (s : ByteArray) : s.extract 0 s.size = s := by
  obtain ⟨d⟩ := s
  have := bytes_ext (s := (⟨d⟩ : ByteArray).extract 0 (⟨d⟩ : ByteArray).size) (l := d.toList) (by rw [ext_list, List.drop_zero, List.take_of_length_le (by simp [ByteArray.size])])
  exact this.trans (by simp)
theorem sm_dv {l : List UInt8} {m : Nat} (h : ∀ c ∈ l, isD c = true) (hl : l.length ≤ 19 * 2 ^ m) : Sm (dv l) (2 ^ m) :=
  (tp_sm m).le (Nat.le_of_lt (Nat.lt_of_lt_of_le (dv_lt h) (Nat.pow_le_pow_right (by omega) hl)))

set_option maxRecDepth 100000 in
set_option maxHeartbeats 4000000 in
theorem readDigits_any (m : Nat) : ∀ (s : ByteArray) (A : Option Addr) (c : Nat) (w : World), s.size ≤ 19 * 2 ^ m → 19 * 2 ^ m ≤ 1000000 → (∀ x ∈ s.data.toList, isD x = true) → Pw w A m c →
    Calls Try.prog 41 #[.string s, .slice A m c] w (Out w (dv s.data.toList)) := by
  induction m with
  | zero =>
    intro s A c w hs hn hd hpw
    rw [Nat.pow_zero, Nat.mul_one] at hs
    have hlen : s.data.toList.length = s.size := by rw [Array.length_toList]; rfl
    have hlt := dv_lt hd
    have hlt2 : dv s.data.toList < 10000000000000000000 := Nat.lt_of_lt_of_le hlt (by
      have := Nat.pow_le_pow_right (n := 10) (by omega) (show s.data.toList.length ≤ 19 by omega)
      rwa [show (10 : Nat) ^ 19 = 10000000000000000000 from rfl] at this)
    have HD := Lib.hid hd
    obtain ⟨x, hx⟩ : ∃ x : Int, x = ((dv s.data.toList : Nat) : Int) := ⟨_, rfl⟩
    have hx0 : 0 ≤ x := by omega
    have hxl : Lm x := lm_small hx0 (by omega)
    have HX := Lib.hid hx; have hxt : x.toNat = dv s.data.toList := by omega
    have HXT := Lib.hid hxt
    clear hlen hlt hlt2 hd hx hxt
    go_enter Try.func41, Try.ntmps41
    go_wp2_with fail
    refine (readChunk_any s _ hs HD.out).mono ?_
    rintro e w' ⟨rfl, rfl⟩
    rw [← HX.out]
    have u1 := lay1 w x hxl
    have hb0 := below_alloc w (.cells #[.int .u64 x] 29)
    go_wp2_with fail
    refine (Norm_any _ _ _ _ _ _ u1 (Nat.le_refl _)).mono ?_
    rintro e w1 ⟨A1, n1, c1, rfl, g1, hb1⟩
    rw [vl_one, HXT.out] at g1
    go_wp2
    go_ret
    exact ⟨_, _, _, rfl, g1, bthen hb0 hb1⟩
  | succ m ih =>
    intro s A c w hs hn hd hpw
    obtain ⟨H, hH⟩ : ∃ H, H = 19 * 2 ^ m := ⟨_, rfl⟩
    have hHn : 19 * 2 ^ (m + 1) = H + H := by rw [hH, Nat.pow_succ]; omega
    have hD : tp m = 10 ^ H := by rw [hH]; rfl
    have hm2 : 2 ^ m ≤ H := by omega
    have hmb : m ≤ 1000000 := by have := Nat.lt_two_pow_self (n := m); omega
    have hm60 : m ≤ 60 := pow_bound hH (by omega)
    have hsh : wrap64 (19 * 2 ^ m) = (H : Int) := sh_val hH (by omega)
    obtain ⟨hcap2, hpw2⟩ := id hpw
    obtain ⟨pb, po, rfl, hpb, hpc⟩ := hpw2 (by omega)
    obtain ⟨Ap, np, cp, hcell, hrp⟩ := hpc m (by omega)
    have hnp : np ≤ 1000000 := Nat.le_trans (hrp.small (tp_sm m)) (by omega)
    have hlen : s.data.toList.length = s.size := by rw [Array.length_toList]; rfl
    have hss : s.size ≤ H + H := by omega
    have e0 : ((↑(m + 1) : Int) == 0) = false := by simp; omega
    have e2 : ((m + 1 : Nat) : Int) - 1 = m := by omega
    have e3 : (m : Int) < ((m + 1 : Nat) : Int) := by omega
    have hmc : m ≤ c := by omega
    have HIH := Lib.hid ih; have HH := Lib.hid hH; have HD := Lib.hid hd; have HL := Lib.hid hlen; have HT := Lib.hid hD
    have hHb : H ≤ 1000000 := by omega
    clear ih hH hd hlen hD hHn hs hn hpc hpw2 hm2
    by_cases hle : s.size ≤ H
    · have hmx : ((s.size : Int) - H) ≤ 0 := by omega
      have h1 : s.size ≤ 19 * 2 ^ m := by rw [← HH.out]; exact hle
      have H1 := Lib.hid h1; clear h1
      go_enter Try.func41, Try.ntmps41
      go_wp2_with fail
      go_region_held3 (fun _ => True) (trivial) (first | (go_at_call 41; (with_reducible refine (HIH.out s (some ⟨pb, po, none⟩) c _ H1.out (by rw [← HH.out]; exact hHb) HD.out (hpw.take (Nat.le_succ m)).drw).mono ?_); rintro e w1 ⟨A1, n1, c1, rfl, g1, hb1⟩; replace hb1 := undrew hb1))
      go_wp2
      go_ret
      exact ⟨_, _, _, rfl, g1, hb1⟩
    · obtain ⟨C, hC⟩ : ∃ C, s.size = C + H := ⟨s.size - H, by omega⟩
      have eC : (s.size : Int) - H = C := by omega
      have hC0 : ((C : Int) == 0) = false := by simp; omega
      have hCH : C ≤ H := by omega
      have hCs : C ≤ s.size := by omega
      have hmx : 0 < (C : Int) := by omega
      have hlo : (s.extract C s.size).data.toList = s.data.toList.drop C := by rw [ext_list, List.take_of_length_le (by rw [HL.out]; exact Nat.le_refl _)]
      have hhi : (s.extract 0 C).data.toList = s.data.toList.take C := by rw [ext_list, List.drop_zero]
      have hdl : (s.data.toList.drop C).length = H := by rw [List.length_drop, HL.out]; omega
      have hdvs : dv s.data.toList = dv (s.data.toList.take C) * tp m + dv (s.data.toList.drop C) := by
        have := dv_append (s.data.toList.take C) (s.data.toList.drop C)
        rw [List.take_append_drop, hdl, ← HT.out] at this
        exact this
      have z1 : (s.extract C s.size).size ≤ 19 * 2 ^ m := by rw [ByteArray.size_extract, ← HH.out]; omega
      have z2 : (s.extract 0 C).size ≤ 19 * 2 ^ m := by rw [ByteArray.size_extract, ← HH.out]; omega
      have d1 : ∀ x ∈ (s.extract C s.size).data.toList, isD x = true := by rw [hlo]; exact fun x hx => HD.out x (List.mem_of_mem_drop hx)
      have d2 : ∀ x ∈ (s.extract 0 C).data.toList, isD x = true := by rw [hhi]; exact fun x hx => HD.out x (List.mem_of_mem_take hx)
      have hsL : Sm (dv (s.data.toList.drop C)) (2 ^ m) := by rw [← hlo]; exact sm_dv d1 (by rw [hlo, hdl, ← HH.out]; exact Nat.le_refl _)
      have hsH : Sm (dv (s.data.toList.take C)) (2 ^ m) := by rw [← hhi]; exact sm_dv d2 (by rw [hhi, List.length_take, ← HH.out]; omega)
      obtain ⟨K, hK⟩ : ∃ K, K = 2 ^ m := ⟨_, rfl⟩
      have hK1 : K ≤ 1000000 := by have := HH.out; omega
      rw [← hK] at hsL hsH
      have hsP : Sm (dv (s.data.toList.take C) * tp m) (K + K) := hsH.mul (by rw [hK]; exact tp_sm m)
      have HLO := Lib.hid hlo; have HHI := Lib.hid hhi; have HDV := Lib.hid hdvs; have Z1 := Lib.hid z1; have Z2 := Lib.hid z2; have D1 := Lib.hid d1; have D2 := Lib.hid d2; have HSL := Lib.hid hsL; have HSH := Lib.hid hsH; have HSP := Lib.hid hsP; have HC := Lib.hid hC
      clear hlo hhi hdvs z1 z2 d1 d2 hsL hsH hsP hC hK hdl
      have hlt0 : pb < w.heap.size := hpb
      go_enter Try.func41, Try.ntmps41
      go_wp2_with fail
      go_region_held3 (fun _ => True) (trivial) (first | (go_at_call 41; (with_reducible refine (HIH.out (s.extract C s.size) (some ⟨pb, po, none⟩) c _ Z1.out (by rw [← HH.out]; exact hHb) D1.out (hpw.take (Nat.le_succ m)).drw).mono ?_); rintro e w1 ⟨A1, n1, c1, rfl, g1, hb1⟩; rw [HLO.out] at g1; replace hb1 := undrew hb1))
      have hpw1 := hpw.keep hb1
      go_wp2_with fail
      go_region_held3 (fun _ => True) (trivial) (first | (go_at_call 41; (with_reducible refine (HIH.out (s.extract 0 C) (some ⟨pb, po, none⟩) c _ Z2.out (by rw [← HH.out]; exact hHb) D2.out (hpw1.take (Nat.le_succ m)).drw).mono ?_); rintro e w2 ⟨A2, n2, c2, rfl, g2, hb2⟩; rw [HHI.out] at g2; replace hb2 := undrew hb2))
      have g1 := g1.go hb2
      have hcell2 : w2.cell? ⟨pb, po + m, none⟩ = some (.slice Ap np cp) := ((bthen hb1 hb2).cell hpb).trans hcell
      have hrp2 := hrp.go (bthen hb1 hb2)
      have zn1 := g1.small HSL.out
      have zn2 := g2.small HSH.out
      clear hcell hpw hpw1
      go_wp2_with fail
      refine (Mul_any _ _ _ _ _ _ _ _ _ g2 hrp2 (by omega) (by omega)).mono ?_
      rintro e w3 ⟨A3, n3, c3, rfl, g3, hb3⟩
      rw [vl_dg Wd2, vl_dg Wd2] at g3
      have zn3 := g3.small HSP.out
      have g1 := g1.go hb3
      go_wp2_with fail
      refine (Add_any _ _ _ _ _ _ _ _ _ g3 g1 (by omega) (by omega)).mono ?_
      rintro e w4 ⟨A4, n4, c4, rfl, g4, hb4⟩
      rw [vl_dg Wd2, vl_dg Wd2, ← HDV.out] at g4
      go_wp2
      go_ret
      exact ⟨_, _, _, rfl, g4, bthen (bthen (bthen hb1 hb2) hb3) hb4⟩
end Go.Proofs.Ytcoidcbbdibnaaa
