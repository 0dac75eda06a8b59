/-
  zed: writeDigits.
-/
import Derived.Test.YtcoidcbbdibnaaaDoorZten
namespace Go.Proofs.YtcoidcbbdibnaaaDoor
open Go.RowKit
set_option linter.unusedVariables false

/-- What reads limbs, or slices, does not lie in a block of bytes. -/
theorem Bk8.not64 {w : World} {g : Nat} {L : List UInt8} (h : Bk8 w g L) {o : Nat} {x : Int} : w.cell? ⟨g, o, none⟩ ≠ some (.int .u64 x) := by
  unfold Bk8 at h
  rw [cell_of_row w g o _ _ (0, 0) h]
  simp only [List.getElem?_toArray, List.getElem?_map]
  cases L[o]? <;> simp [byteV]
theorem Bk8.notS {w : World} {g : Nat} {L : List UInt8} (h : Bk8 w g L) {o : Nat} {A : Option Addr} {n c : Nat} : w.cell? ⟨g, o, none⟩ ≠ some (.slice A n c) := by
  unfold Bk8 at h
  rw [cell_of_row w g o _ _ (0, 0) h]
  simp only [List.getElem?_toArray, List.getElem?_map]
  cases L[o]? <;> simp [byteV]
theorem Rd.by8 {w w' : World} {A : Option Addr} {n c g : Nat} {l : List Int} {L : List UInt8} (h : Rd w w.heap.size A n c l) (hk : Bk8 w g L) (hg : w.grownBy w' (some g)) : Rd w' w'.heap.size A n c l := by
  refine ⟨h.1, h.2.1, h.2.2.1, h.2.2.2.1, fun hn => ?_⟩
  obtain ⟨b, off, e, hb, hc⟩ := h.at_ hn
  refine ⟨b, off, e, Nat.lt_of_lt_of_le hb hg.size, fun k hkl => ?_⟩
  rw [← hc k hkl]
  refine World.cell?_of_block (hg.block b hb (fun e2 => ?_))
  injection e2 with e2
  subst e2
  exact hk.not64 (hc k hkl)
theorem Pw.by8 {w w' : World} {A : Option Addr} {n c g : Nat} {L : List UInt8} (h : Pw w A n c) (hk : Bk8 w g L) (hg : w.grownBy w' (some g)) : Pw w' A n c := by
  refine ⟨h.1, fun hn => ?_⟩
  obtain ⟨b, off, e, hb, hc⟩ := h.2 hn
  refine ⟨b, off, e, Nat.lt_of_lt_of_le hb hg.size, fun k hkn => ?_⟩
  obtain ⟨A', n', c', h1, h2⟩ := hc k hkn
  refine ⟨A', n', c', ?_, h2.by8 hk hg⟩
  rw [← h1]
  refine World.cell?_of_block (hg.block b hb (fun e2 => ?_))
  injection e2 with e2
  subst e2
  exact hk.notS h1
theorem grow_of_below {w w' : World} (hb : Below w.heap.size w w') (g : Nat) : w.grownBy w' (some g) := ⟨hb.os, hb.tape, hb.output, hb.size, fun k hk _ => hb.block k hk⟩
theorem Bk8.drw {w : World} {g : Nat} {L : List UInt8} (h : Bk8 w g L) : Bk8 w.drew g L := h
theorem Pw.drw {w : World} {A : Option Addr} {n c : Nat} (h : Pw w A n c) : Pw w.drew A n c := h
theorem grown_undrew {a b : World} {r : Option Nat} (h : a.drew.grownBy b r) : a.grownBy b r := ⟨h.os, h.tape, h.output, h.size, h.block⟩
def WdPost (w : World) (g : Nat) (P S : List UInt8) (N n : Nat) (e : Ending) (w' : World) : Prop := e = .returned (.tuple #[]) ∧ Bk8 w' g (P ++ (td N n ++ S)) ∧ w.grownBy w' (some g)

set_option maxHeartbeats 4000000 in
set_option maxRecDepth 100000 in
theorem writeDigits_any (m : Nat) : ∀ (g off n c : Nat) (P W S : List UInt8) (A : Option Addr) (n1 c1 : Nat) (l : List Int) (A2 : Option Addr) (c2 : Nat) (w : World), Bk8 w g (P ++ (W ++ S)) → P.length = off → W.length = n → n = 19 * 2 ^ m → n ≤ 1000000 → n ≤ c →
    Rd w w.heap.size A n1 c1 l → n1 ≤ 1000000 → vl Wd l < 10 ^ n → Pw w A2 m c2 →
    Calls Tryd.prog 73 #[.slice (some ⟨g, off, none⟩) n c, .slice A n1 c1, .slice A2 m c2] w (WdPost w g P S (vl Wd l) n) := by
  induction m with
  | zero =>
    intro g off n c P W S A n1 c1 l A2 c2 w hbk hP hW hnm hn hc hrd hn1 hN hpw
    rw [Nat.pow_zero, Nat.mul_one] at hnm
    subst hnm
    have hN2 : vl Wd l < 18446744073709551616 := Nat.lt_trans hN (by decide)
    have hlow := lowI_vl hrd.lim (by rw [Wd_eq]; exact hN2)
    have HN2 := Lib.hid hN2; have HL := Lib.hid hlow; have HP := Lib.hid hP; have HW := Lib.hid hW
    clear hN2 hlow hP hW hN
    go_enter Tryd.func73, Tryd.ntmps73
    go_wp2_with fail
    refine (lowLimb_any _ _ _ _ _ _ hrd).mono ?_
    rintro e w' ⟨rfl, rfl⟩
    rw [HL.out]
    go_wp2_with fail
    refine (writeChunk_any g off 19 c P W S (vl Wd l) _ hbk HP.out HW.out (by omega) hc HN2.out).mono ?_
    rintro e w1 ⟨rfl, k1, k2⟩
    go_wp2
    go_end0
    exact ⟨rfl, k1, k2⟩
  | succ m ih =>
    intro g off n c P W S A n1 c1 l A2 c2 w hbk hP hW hnm hn hc hrd hn1 hN hpw
    obtain ⟨H, hH⟩ : ∃ H, H = 19 * 2 ^ m := ⟨_, rfl⟩
    have hnH : n = H + H := by rw [hnm, hH, Nat.pow_succ]; omega
    have hD : tp m = 10 ^ H := by rw [hH]; rfl
    obtain ⟨K, hK1, hK2⟩ : ∃ K, n1 ≤ K ∧ K ≤ 1000000 := ⟨_, Nat.le_refl _, hn1⟩
    have hsN := Sm.of hrd hK1
    have hm2 : 2 ^ m ≤ H := by omega
    have hH0 : 0 < H := Nat.lt_of_lt_of_le (Nat.two_pow_pos m) hm2
    have hmb : m ≤ 1000000 := by have := Nat.lt_two_pow_self (n := m); omega
    obtain ⟨hcap2, hpw2⟩ := id hpw
    obtain ⟨pb, po, rfl, hpb, hpc⟩ := hpw2 (by omega)
    obtain ⟨Ap, np, cp, hcell, hrp⟩ := hpc m (by omega)
    have hnp : np ≤ 1000000 := Nat.le_trans (hrp.small (tp_sm m)) (by omega)
    have hbk1 : Bk8 w g (P ++ (W.take H ++ (W.drop H ++ S))) := by rw [← List.append_assoc (W.take H), List.take_append_drop]; exact hbk
    have hW1 : (W.take H).length = H := by rw [List.length_take]; omega
    have hW2 : (W.drop H).length = H := by rw [List.length_drop]; omega
    have htd := td_half (vl Wd l) (tp m) H hD
    have hq1 : vl Wd l / tp m < 10 ^ H := by rw [Nat.div_lt_iff_lt_mul (tp_pos m), ← hD, hD, ← Nat.pow_add, ← hnH]; exact hN
    have hq2 : vl Wd l % tp m < 10 ^ H := by rw [← hD]; exact Nat.mod_lt _ (tp_pos m)
    have hsQ : Sm (vl Wd l / tp m) K := hsN.div _
    have hsR : Sm (vl Wd l % tp m) K := hsN.mod
    have htp0 := tp_pos m
    have HP := Lib.hid hP; have HTD := Lib.hid htd; have HH := Lib.hid hH; have HQ1 := Lib.hid hq1; have HQ2 := Lib.hid hq2
    have HW1 := Lib.hid hW1; have HW2 := Lib.hid hW2; have HSQ := Lib.hid hsQ; have HSR := Lib.hid hsR; have HT0 := Lib.hid htp0; have HIH := Lib.hid ih; have HnH := Lib.hid hnH
    have hnH2 : n - H = H := by omega
    have HnH2 := Lib.hid hnH2; clear hnH2
    have e1 : (n : Int) / 2 = H := by omega
    have e0 : ((↑(m + 1) : Int) == 0) = false := by simp; omega
    have e2 : ((m + 1 : Nat) : Int) - 1 = m := by omega
    have e3 : (m : Int) < ((m + 1 : Nat) : Int) := by omega
    have hHc : H ≤ c := by omega
    have hHn : H ≤ n := by omega
    have hHlt : H < n := by omega
    have hHne : ¬ c = H := by omega
    have hmc : m ≤ c2 := by omega
    clear hbk hP hW hnm hN hsN htd hq1 hq2 hW1 hW2 hsQ hsR htp0 ih hH hnH hD hpc hpw2 hm2
    generalize hNe : vl Wd l = N at *
    have HN := Lib.hid hNe; clear hNe
    go_enter Tryd.func73, Tryd.ntmps73
    go_wp2_with fail
    refine (DivMod_any _ _ _ _ _ _ _ _ _ hrd hrp (by omega) (by rw [vl_dg Wd2]; exact HT0.out)).mono ?_
    rintro e w1 ⟨A3, n3, c3, A4, n4, c4, rfl, g3, g4, hb1⟩
    rw [HN.out, vl_dg Wd2] at g3 g4
    have hn3 := g3.small HSQ.out
    have hn4 := g4.small HSR.out
    have k1 : Bk8 w1 g _ := hbk1.below hb1 hbk1.lt
    have hpw1 := hpw.keep hb1
    clear hbk1 hpw hrd hrp hcell
    go_wp2_with fail
    go_region_held3 (fun _ => True) (trivial) (first | (go_at_call 73; (with_reducible refine (HIH.out g off H c P (W.take H) (W.drop H ++ S) A3 n3 c3 _ (some ⟨pb, po, none⟩) c2 _ k1.drw HP.out HW1.out HH.out (by omega) (by omega) g3.drw (by omega) (by rw [vl_dg Wd2]; exact HQ1.out) (hpw1.take (Nat.le_succ m)).drw).mono ?_); rintro e w2 ⟨rfl, k2, q2⟩))
    replace q2 := grown_undrew q2
    have g4 := g4.by8 k1 q2
    have hpw2 := hpw1.by8 k1 q2
    rw [vl_dg Wd2, ← List.append_assoc] at k2
    have hPl : (P ++ td (N / tp m) H).length = off + H := by rw [List.length_append, td_length, HP.out]
    have HPl := Lib.hid hPl; clear hPl
    clear k1 hpw1 g3
    go_wp2_with fail
    go_region_held3 (fun _ => True) (trivial) (first | (go_at_call 73; (with_reducible refine (HIH.out g (off + H) (n - H) (c - H) (P ++ td (N / tp m) H) (W.drop H) S A4 n4 c4 _ (some ⟨pb, po, none⟩) c2 _ k2.drw HPl.out (by rw [HnH2.out]; exact HW2.out) (by rw [HnH2.out]; exact HH.out) (by omega) (by omega) g4.drw (by omega) (by rw [vl_dg Wd2, HnH2.out]; exact HQ2.out) (hpw2.take (Nat.le_succ m)).drw).mono ?_); rintro e w3 ⟨rfl, k3, q3⟩))
    replace q3 := grown_undrew q3
    go_wp2
    go_end0
    refine ⟨rfl, ?_, grownBy_trans (grow_of_below hb1 g) (grownBy_trans q2 q3)⟩
    rw [HnH.out, HTD.out, List.append_assoc, ← List.append_assoc P]
    rw [vl_dg Wd2, HnH2.out] at k3
    exact k3
end Go.Proofs.YtcoidcbbdibnaaaDoor
