/-
  cut, and the law NatRing, as a call.
-/
import Derived.Test.YtniippglkboieaaShown
namespace Go.Proofs.Ytniippglkboieaa
open Go.RowKit
set_option linter.unusedVariables false

/-- A number of at most k limbs. -/
def Sm (N k : Nat) : Prop := N < Wd ^ k
theorem Sm.of {w : World} {B n c k : Nat} {A : Option Addr} {l : List Int} (h : Rd w B A n c l) (hn : n ≤ k) : Sm (vl Wd l) k := by
  have := vl_lt h.lim
  rw [h.len] at this
  exact Nat.lt_of_lt_of_le this (Nat.pow_le_pow_right Wd0 hn)
theorem Sm.add {N M k : Nat} (h : Sm N k) (h2 : Sm M k) : Sm (N + M) (k + 1) := by
  unfold Sm at *
  rw [Nat.pow_succ]
  have : Wd ^ k * 2 ≤ Wd ^ k * Wd := Nat.mul_le_mul_left _ Wd2
  generalize Wd ^ k * Wd = r at *
  generalize Wd ^ k = q at *
  omega
theorem Sm.mul {N M j k : Nat} (h : Sm N j) (h2 : Sm M k) : Sm (N * M) (j + k) := by
  unfold Sm at *
  rw [Nat.pow_add]
  exact Nat.mul_lt_mul'' h h2
theorem Sm.mono {N j k : Nat} (h : Sm N j) (hk : j ≤ k) : Sm N k := Nat.lt_of_lt_of_le h (Nat.pow_le_pow_right Wd0 hk)
theorem Sm.le {N M k : Nat} (h : Sm N k) (hM : M ≤ N) : Sm M k := Nat.lt_of_le_of_lt hM h
theorem Rd.small {w : World} {B n c k N : Nat} {A : Option Addr} (h : Rd w B A n c (dg Wd N)) (hN : Sm N k) : n ≤ k := by
  rw [← h.len]
  exact dg_len_le Wd2 hN
theorem Quiet.bel {w w' : World} (h : Quiet w w') : Below w.heap.size w w' := h.below
theorem sameB_self (l : List Int) : sameB l l = true := by simp [sameB]
theorem sameB_dg {N M : Nat} (h : N = M) : sameB (dg Wd N) (dg Wd M) = true := by rw [h]; exact sameB_self _

/-- A slice that reads as l; it is no longer than k. -/
def CutPost (w : World) (B : Nat) (k : Nat) (l : List Int) (e : Ending) (w' : World) : Prop := ∃ A n c, e = .returned (.slice A n c) ∧ n ≤ k ∧ Rd w B A n c (l.take k) ∧ w = w'

set_option maxHeartbeats 400000 in
theorem cut_any (A : Option Addr) (n c : Nat) (l : List Int) (k : Nat) (w : World) (B : Nat) (h : Rd w B A n c l) (hk : k ≤ 1000) :
    Calls Try.prog 15 #[.slice A n c, .int .i64 k] w (CutPost w B k l) := by
  have hcap := h.cap
  have hbig := h.big
  have H := Lib.hid h.len
  by_cases hnk : k < n
  · have hkc : k ≤ c := by omega
    go_enter Try.func15, Try.ntmps15
    go_wp2
    all_goals go_ret
    all_goals exact ⟨_, _, _, rfl, by omega, h.take (by omega), rfl⟩
  · go_enter Try.func15, Try.ntmps15
    go_wp2
    go_ret
    exact ⟨_, _, _, rfl, by omega, by rw [List.take_of_length_le (by have := H.out; omega)]; exact h, rfl⟩

set_option maxHeartbeats 4000000 in
theorem NatRing_any (A A2 A3 : Option Addr) (n c n2 c2 n3 c3 : Nat) (l1 l2 l3 : List Int) (w : World) (h1 : Rd w w.heap.size A n c l1) (h2 : Rd w w.heap.size A2 n2 c2 l2) (h3 : Rd w w.heap.size A3 n3 c3 l3) :
    Calls Try.prog 11 #[.slice A n c, .slice A2 n2 c2, .slice A3 n3 c3] w fun e w' => e = .returned (.bool true) ∧ Below w.heap.size w w' := by
  go_enter Try.func11, Try.ntmps11
  go_wp2_with fail
  refine (shown_any _).mono ?_
  rintro e w1 ⟨rfl, hb⟩
  have g1 := (h1.below hb).more hb.size
  have g2 := (h2.below hb).more hb.size
  have g3 := (h3.below hb).more hb.size
  clear h1 h2 h3
  go_wp2_with fail
  refine (cut_any _ _ _ _ 12 _ _ g1 (by omega)).mono ?_
  rintro e w' ⟨A, n, c, rfl, hn1, g1, rfl⟩
  go_wp2_with fail
  refine (cut_any _ _ _ _ 12 _ _ g2 (by omega)).mono ?_
  rintro e w' ⟨A2, n2, c2, rfl, hn2, g2, rfl⟩
  go_wp2_with fail
  refine (cut_any _ _ _ _ 12 _ _ g3 (by omega)).mono ?_
  rintro e w' ⟨A3, n3, c3, rfl, hn3, g3, rfl⟩
  have m1 := Sm.of g1 hn1
  have m2 := Sm.of g2 hn2
  have m3 := Sm.of g3 hn3
  generalize hN1 : vl Wd (l1.take 12) = N1 at *
  generalize hN2 : vl Wd (l2.take 12) = N2 at *
  generalize hN3 : vl Wd (l3.take 12) = N3 at *
  have HN1 := Lib.hid hN1; have HN2 := Lib.hid hN2; have HN3 := Lib.hid hN3; clear hN1 hN2 hN3
  generalize l1.take 12 = k1 at *
  generalize l2.take 12 = k2 at *
  generalize l3.take 12 = k3 at *
  -- (a + b) c
  go_wp2_with fail
  refine (Add_any _ _ _ _ _ _ _ _ _ g1 g2 (by omega) (by omega)).mono ?_
  rintro e w2 ⟨B1, b1, d1, rfl, s1, hb1⟩
  rw [HN1.out, HN2.out] at s1
  have g1 := (g1.below hb1).more hb1.size
  have g2 := (g2.below hb1).more hb1.size
  have g3 := (g3.below hb1).more hb1.size
  have hb := hb.trans (hb1.mono hb.size)
  have z1 := s1.small (m1.add m2)
  clear hb1
  go_wp2_with fail
  refine (Mul_any _ _ _ _ _ _ _ _ _ s1 g3 (by omega) (by omega)).mono ?_
  rintro e w3 ⟨B2, b2, d2, rfl, s2, hb1⟩
  rw [vl_dg Wd2, HN3.out] at s2
  have g1 := (g1.below hb1).more hb1.size
  have g2 := (g2.below hb1).more hb1.size
  have g3 := (g3.below hb1).more hb1.size
  have hb := hb.trans (hb1.mono hb.size)
  clear hb1 s1 z1
  -- a c
  go_wp2_with fail
  refine (Mul_any _ _ _ _ _ _ _ _ _ g1 g3 (by omega) (by omega)).mono ?_
  rintro e w4 ⟨B3, b3, d3, rfl, s3, hb1⟩
  rw [HN1.out, HN3.out] at s3
  have g1 := (g1.below hb1).more hb1.size
  have g2 := (g2.below hb1).more hb1.size
  have g3 := (g3.below hb1).more hb1.size
  have s2 := (s2.below hb1).more hb1.size
  have hb := hb.trans (hb1.mono hb.size)
  have z3 := s3.small (m1.mul m3)
  clear hb1
  -- b c
  go_wp2_with fail
  refine (Mul_any _ _ _ _ _ _ _ _ _ g2 g3 (by omega) (by omega)).mono ?_
  rintro e w5 ⟨B4, b4, d4, rfl, s4, hb1⟩
  rw [HN2.out, HN3.out] at s4
  have g1 := (g1.below hb1).more hb1.size
  have g2 := (g2.below hb1).more hb1.size
  have g3 := (g3.below hb1).more hb1.size
  have s2 := (s2.below hb1).more hb1.size
  have s3 := (s3.below hb1).more hb1.size
  have hb := hb.trans (hb1.mono hb.size)
  have z4 := s4.small (m2.mul m3)
  clear hb1
  go_wp2_with fail
  refine (Add_any _ _ _ _ _ _ _ _ _ s3 s4 (by omega) (by omega)).mono ?_
  rintro e w6 ⟨B5, b5, d5, rfl, s5, hb1⟩
  rw [vl_dg Wd2, vl_dg Wd2] at s5
  have g1 := (g1.below hb1).more hb1.size
  have g2 := (g2.below hb1).more hb1.size
  have g3 := (g3.below hb1).more hb1.size
  have s2 := (s2.below hb1).more hb1.size
  have hb := hb.trans (hb1.mono hb.size)
  clear hb1 s3 s4 z3 z4
  go_wp2_with fail
  refine (Same_any _ _ _ _ _ _ _ _ _ _ s2 s5).mono ?_
  rintro e w7 ⟨rfl, hq⟩
  rw [sameB_dg (by rw [Nat.add_mul])]
  have hb1 := hq.below (B := w6.heap.size)
  have g1 := (g1.below hb1).more hb1.size
  have g2 := (g2.below hb1).more hb1.size
  have g3 := (g3.below hb1).more hb1.size
  have hb := hb.trans (hb1.mono hb.size)
  clear hb1 s2 s5 hq
  -- a (b c)
  go_wp2_with fail
  refine (Mul_any _ _ _ _ _ _ _ _ _ g2 g3 (by omega) (by omega)).mono ?_
  rintro e w8 ⟨B1, b1, d1, rfl, s1, hb1⟩
  rw [HN2.out, HN3.out] at s1
  have g1 := (g1.below hb1).more hb1.size
  have g2 := (g2.below hb1).more hb1.size
  have g3 := (g3.below hb1).more hb1.size
  have hb := hb.trans (hb1.mono hb.size)
  have z1 := s1.small (m2.mul m3)
  clear hb1
  go_wp2_with fail
  refine (Mul_any _ _ _ _ _ _ _ _ _ g1 s1 (by omega) (by omega)).mono ?_
  rintro e w9 ⟨B2, b2, d2, rfl, s2, hb1⟩
  rw [HN1.out, vl_dg Wd2] at s2
  have g1 := (g1.below hb1).more hb1.size
  have g2 := (g2.below hb1).more hb1.size
  have g3 := (g3.below hb1).more hb1.size
  have hb := hb.trans (hb1.mono hb.size)
  clear hb1 s1 z1
  go_wp2_with fail
  refine (Mul_any _ _ _ _ _ _ _ _ _ g1 g2 (by omega) (by omega)).mono ?_
  rintro e w10 ⟨B3, b3, d3, rfl, s3, hb1⟩
  rw [HN1.out, HN2.out] at s3
  have g1 := (g1.below hb1).more hb1.size
  have g2 := (g2.below hb1).more hb1.size
  have g3 := (g3.below hb1).more hb1.size
  have s2 := (s2.below hb1).more hb1.size
  have hb := hb.trans (hb1.mono hb.size)
  have z3 := s3.small (m1.mul m2)
  clear hb1
  go_wp2_with fail
  refine (Mul_any _ _ _ _ _ _ _ _ _ s3 g3 (by omega) (by omega)).mono ?_
  rintro e w11 ⟨B4, b4, d4, rfl, s4, hb1⟩
  rw [vl_dg Wd2, HN3.out] at s4
  have g1 := (g1.below hb1).more hb1.size
  have g2 := (g2.below hb1).more hb1.size
  have s2 := (s2.below hb1).more hb1.size
  have hb := hb.trans (hb1.mono hb.size)
  clear hb1 s3 z3 g3
  go_wp2_with fail
  refine (Same_any _ _ _ _ _ _ _ _ _ _ s2 s4).mono ?_
  rintro e w12 ⟨rfl, hq⟩
  rw [sameB_dg (by rw [Nat.mul_assoc])]
  have hb1 := hq.below (B := w11.heap.size)
  have g1 := (g1.below hb1).more hb1.size
  have g2 := (g2.below hb1).more hb1.size
  have hb := hb.trans (hb1.mono hb.size)
  clear hb1 s2 s4 hq
  -- a b
  go_wp2_with fail
  refine (Mul_any _ _ _ _ _ _ _ _ _ g1 g2 (by omega) (by omega)).mono ?_
  rintro e w13 ⟨B1, b1, d1, rfl, s1, hb1⟩
  rw [HN1.out, HN2.out] at s1
  have g1 := (g1.below hb1).more hb1.size
  have g2 := (g2.below hb1).more hb1.size
  have hb := hb.trans (hb1.mono hb.size)
  clear hb1
  go_wp2_with fail
  refine (Mul_any _ _ _ _ _ _ _ _ _ g2 g1 (by omega) (by omega)).mono ?_
  rintro e w14 ⟨B2, b2, d2, rfl, s2, hb1⟩
  rw [HN1.out, HN2.out] at s2
  have s1 := (s1.below hb1).more hb1.size
  have hb := hb.trans (hb1.mono hb.size)
  clear hb1 g1 g2
  go_wp2_with fail
  refine (Same_any _ _ _ _ _ _ _ _ _ _ s1 s2).mono ?_
  rintro e w15 ⟨rfl, hq⟩
  rw [sameB_dg (by rw [Nat.mul_comm])]
  have hb1 := hq.below (B := w14.heap.size)
  have hb := hb.trans (hb1.mono hb.size)
  clear hb1 hq s1 s2
  go_wp2
  go_ret
  exact ⟨rfl, hb⟩
end Go.Proofs.Ytniippglkboieaa
