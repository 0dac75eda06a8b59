/-
  The document's answer: Gcd.
-/
import Derived.Test.YtniippglkboieaaDivides
namespace Go.Proofs.Ytniippglkboieaa
open Go.RowKit
set_option linter.unusedVariables false

def GrRel (w : World) (G : Nat) (av bv : Value) (N M : Nat) (wr : World) : Prop :=
  ∃ A n c A2 n2 c2, av = .slice A n c ∧ bv = .slice A2 n2 c2 ∧ Rd wr wr.heap.size A n c (dg Wd N) ∧ Rd wr wr.heap.size A2 n2 c2 (dg Wd M) ∧ Nat.gcd N M = G ∧ n ≤ 1000000 ∧ n2 ≤ 1000000 ∧ Below w.heap.size w wr

set_option maxHeartbeats 2000000 in
theorem RGcd_any (A A2 : Option Addr) (n c n2 c2 : Nat) (l m : List Int) (w : World) (h : Rd w w.heap.size A n c l) (h2 : Rd w w.heap.size A2 n2 c2 m) (hn : n ≤ 1000000) (hn2 : n2 ≤ 1000000) :
    Calls Try.prog 38 #[.slice A n c, .slice A2 n2 c2] w (Out w (Nat.gcd (vl Wd l) (vl Wd m))) := by
  have hNn := dg_len_le Wd2 (h.len ▸ vl_lt h.lim : vl Wd l < Wd ^ n)
  have hMn := dg_len_le Wd2 (h2.len ▸ vl_lt h2.lim : vl Wd m < Wd ^ n2)
  generalize hN : vl Wd l = N at *
  generalize hM : vl Wd m = M at *
  have HN := Lib.hid hN; clear hN
  have HM := Lib.hid hM; clear hM
  generalize hG : Nat.gcd N M = G
  have HG := Lib.hid hG; clear hG
  go_enter Try.func38, Try.ntmps38
  go_wp2_with fail
  refine (RNorm_any _ _ _ _ _ h (by omega)).mono ?_
  rintro e w1 ⟨A', n', c', rfl, hrd, hb1⟩
  rw [HN.out] at hrd
  go_wp2_with fail
  refine (RNorm_any _ _ _ _ _ ((h2.below hb1).more hb1.size) (by omega)).mono ?_
  rintro e w2 ⟨A2', n2', c2', rfl, hrd2, hb2⟩
  rw [HM.out] at hrd2
  have hb2' := hb1.trans (hb2.mono hb1.size)
  have hrdn := (hrd.below hb2).more hb2.size
  have hl1 := hrd.len
  have hl2 := hrd2.len
  have R0 : GrRel w G (.slice A' n' c') (.slice A2' n2' c2') N M w2 := ⟨_, _, _, _, _, _, rfl, rfl, hrdn, hrd2, HG.out, by omega, by omega, hb2'⟩
  clear h h2 hrd hrd2 hb1 hb2 hb2' hrdn hl1 hl2 hNn hMn hn hn2
  go_wp2
  go_loopg [0, 1, 5, 6, 7] M (fun k av bv _ _ _ wr => ∃ a : Nat, GrRel w G av bv a k wr)
  case atStart => exact ⟨N, R0⟩
  case round =>
    clear R0
    obtain ⟨a, A3, n3, c3, A4, n4, c4, rfl, rfl, k1, k2, k3, k4, k5, k6⟩ := hrel
    have HK3 := Lib.hid k3; clear k3
    have hl4 := k2.len
    by_cases h0 : n4 = 0
    · subst h0
      have hg0 : gk = 0 := (dg_eq_nil Wd2).1 (List.eq_nil_of_length_eq_zero hl4)
      have HG0 := Lib.hid hg0; clear hg0 hl4
      go_wp2
      go_ret
      refine ⟨_, _, _, rfl, ?_, k6⟩
      have := HK3.out
      rw [HG0.out, Nat.gcd_zero_right] at this
      rw [← this]
      exact k1
    · have hgp : 0 < gk := by
        rcases Nat.eq_zero_or_pos gk with h | h
        · exfalso; rw [h, dg_zero] at hl4; exact h0 hl4.symm
        · exact h
      have HL4 := Lib.hid hl4; clear hl4
      have hn4 : (0 : Int) < n4 := by omega
      go_wp2_with fail
      refine (RDivMod_any _ _ _ _ _ _ _ _ _ k1 k2 k4 k5 (by rw [vl_dg Wd2]; exact hgp)).mono ?_
      rintro e w3 ⟨A5, n5, c5, A6, n6, c6, rfl, z1, z2, z3⟩
      rw [vl_dg Wd2, vl_dg Wd2] at z2
      have hlt : a % gk < gk := Nat.mod_lt _ hgp
      have hl6 := z2.len
      have hle6 := dg_len_mono Wd2 (Nat.le_of_lt hlt)
      have R : GrRel w G (.slice A4 n4 c4) (.slice A6 n6 c6) gk (a % gk) w3 := ⟨_, _, _, _, _, _, rfl, rfl, (k2.below z3).more z3.size, z2, by rw [← HK3.out, Nat.gcd_comm a gk, Nat.gcd_rec gk a, Nat.gcd_comm], k5, by have := HL4.out; omega, k6.trans (z3.mono k6.size)⟩
      clear hl6 hle6 z1 z2 z3 k1 k2 k6
      go_wp2
      go_roundg (a % gk)
      case measure => exact hlt
      case rel => exact ⟨gk, R⟩
end Go.Proofs.Ytniippglkboieaa
