/-
  shown, cut: what the laws begin with.
-/
import Derived.Test.YtniippglkboieaaText
namespace Go.Proofs.Ytniippglkboieaa
open Go.RowKit
set_option linter.unusedVariables false

theorem dg_lit1 {x : Nat} (hx : x < Wd) (h0 : 0 < x) : dg Wd x = [(x : Int)] := by
  have := dg_one (x := (x : Int)) ⟨by omega, by omega⟩
  rw [if_neg (by omega), Int.toNat_natCast] at this
  exact this
theorem dg_Wd : dg Wd (18446744073709551615 + 1) = [0, 1] := by
  have := dg_of Wd2 (l := [0, 1]) (fun y hy => by simp at hy; rw [Wd_eq]; rcases hy with rfl | rfl <;> omega) (fun y hy => by simp at hy; omega)
  have e : vl Wd [0, 1] = 18446744073709551615 + 1 := by
    show (0 : Int).toNat + Wd * ((1 : Int).toNat + Wd * 0) = _
    rw [Wd_eq]; rfl
  rw [e] at this
  exact this
theorem hex_ff : tl 255 (hexN 255) = [102, 102] := by
  have hb : bl 255 = 8 := bl_eq (by omega) (fun _ => by omega)
  have : hexN 255 = 2 := by unfold hexN; rw [hb]; omega
  rw [this]
  rfl
/-- Two numbers of one limb, just laid. -/
theorem two_laid (w : World) (x y : Int) (hx : Lm x) (hy : Lm y) (t : TypeId) :
    Rd ((w.alloc (.cells #[.int .u64 x] t)).alloc (.cells #[.int .u64 y] t)) ((w.alloc (.cells #[.int .u64 x] t)).alloc (.cells #[.int .u64 y] t)).heap.size (some ⟨w.heap.size, 0, none⟩) 1 1 [x] ∧
    Rd ((w.alloc (.cells #[.int .u64 x] t)).alloc (.cells #[.int .u64 y] t)) ((w.alloc (.cells #[.int .u64 x] t)).alloc (.cells #[.int .u64 y] t)).heap.size (some ⟨w.heap.size + 1, 0, none⟩) 1 1 [y] :=
  ⟨(one_rd hx (by simp)).more (by simp), (one_rd hy (by simp)).more (by simp)⟩
theorem two_below (w : World) (o p : Obj) : Below w.heap.size w ((w.alloc o).alloc p) := ((Below.refl _ _).alloc (Nat.le_refl _) _).alloc (by simp) _
theorem vl_one (x : Int) : vl Wd [x] = x.toNat := by simp [vl]

theorem lm_small {x : Int} (h0 : 0 ≤ x) (h1 : x < 18446744073709551616) : Lm x := by unfold Lm; rw [Wd_eq]; omega

set_option maxHeartbeats 4000000 in
theorem shown_any (w : World) : Calls Try.prog 14 #[] w fun e w' => e = .returned (.bool true) ∧ Below w.heap.size w w' := by
  go_enter Try.func14, Try.ntmps14
  go_wp2_with fail
  obtain ⟨r1, r2⟩ := two_laid w 18446744073709551615 1 (lm_small (by omega) (by omega)) (lm_small (by omega) (by omega)) 27
  have hb0 := two_below w (.cells #[.int .u64 18446744073709551615] 27) (.cells #[.int .u64 1] 27)
  refine (Add_any _ _ _ _ _ _ _ _ _ r1 r2 (by omega) (by omega)).mono ?_
  rintro e w1 ⟨A1, n1, c1, rfl, s1, b1⟩
  rw [vl_one, vl_one, show (18446744073709551615 : Int).toNat + (1 : Int).toNat = 18446744073709551615 + 1 from rfl, dg_Wd] at s1
  have hb1 := hb0.trans (b1.mono hb0.size)
  clear r1 r2 hb0 b1
  go_wp2_with fail
  obtain ⟨r1, r2⟩ := two_laid w1 1 2 (lm_small (by omega) (by omega)) (lm_small (by omega) (by omega)) 27
  have hb0 := two_below w1 (.cells #[.int .u64 1] 27) (.cells #[.int .u64 2] 27)
  refine (Sub_less _ _ _ _ _ _ _ _ _ r1 r2 (by omega) (by rw [vl_one, vl_one]; decide)).mono ?_
  rintro e w2 ⟨rfl, hq⟩
  have b2 := hb0.trans (hq.below (B := w1.heap.size))
  have s1 := (s1.below b2).more b2.size
  have hb2 := hb1.trans (b2.mono hb1.size)
  clear r1 r2 hb0 hb1 hq b2
  go_wp2_with fail
  obtain ⟨r1, r2⟩ := two_laid w2 7 2 (lm_small (by omega) (by omega)) (lm_small (by omega) (by omega)) 27
  have hb0 := two_below w2 (.cells #[.int .u64 7] 27) (.cells #[.int .u64 2] 27)
  refine (DivMod_any _ _ _ _ _ _ _ _ _ r1 r2 (by omega) (by rw [vl_one]; decide)).mono ?_
  rintro e w3 ⟨A3, n3, c3, A4, n4, c4, rfl, s3, s4, b3⟩
  rw [vl_one, vl_one, show (7 : Int).toNat / (2 : Int).toNat = 3 from rfl, dg_lit1 (by rw [Wd_eq]; omega) (by omega)] at s3
  rw [vl_one, vl_one, show (7 : Int).toNat % (2 : Int).toNat = 1 from rfl, dg_lit1 (by rw [Wd_eq]; omega) (by omega)] at s4
  have b3' := hb0.trans (b3.mono hb0.size)
  have s1 := (s1.below b3').more b3'.size
  have hb3 := hb2.trans (b3'.mono hb2.size)
  clear r1 r2 hb0 hb2 b3 b3'
  go_wp2_with fail
  obtain ⟨r1, r2⟩ := two_laid w3 12 18 (lm_small (by omega) (by omega)) (lm_small (by omega) (by omega)) 27
  have hb0 := two_below w3 (.cells #[.int .u64 12] 27) (.cells #[.int .u64 18] 27)
  refine (Gcd_any _ _ _ _ _ _ _ _ _ r1 r2 (by omega) (by omega)).mono ?_
  rintro e w4 ⟨A5, n5, c5, rfl, s5, b4⟩
  rw [vl_one, vl_one, show Nat.gcd (12 : Int).toNat (18 : Int).toNat = 6 from by decide, dg_lit1 (by rw [Wd_eq]; omega) (by omega)] at s5
  have b4' := hb0.trans (b4.mono hb0.size)
  have s1 := (s1.below b4').more b4'.size
  have s3 := (s3.below b4').more b4'.size
  have s4 := (s4.below b4').more b4'.size
  have hb4 := hb3.trans (b4'.mono hb3.size)
  clear r1 r2 hb0 hb3 b4 b4'
  obtain rfl : 2 = n1 := s1.len
  obtain rfl : 1 = n3 := s3.len
  obtain rfl : 1 = n4 := s4.len
  obtain rfl : 1 = n5 := s5.len
  obtain ⟨d1, o1, rfl, _, k1⟩ := s1.at_ (by omega)
  obtain ⟨d3, o3, rfl, _, k3⟩ := s3.at_ (by omega)
  obtain ⟨d4, o4, rfl, _, k4⟩ := s4.at_ (by omega)
  obtain ⟨d5, o5, rfl, _, k5⟩ := s5.at_ (by omega)
  have x10 := k1 0 (by simp)
  have x11 := k1 1 (by simp)
  have x3 := k3 0 (by simp)
  have x4 := k4 0 (by simp)
  have x5 := k5 0 (by simp)
  simp only [Nat.add_zero, List.getElem_cons_zero, List.getElem_cons_succ] at x10 x11 x3 x4 x5
  clear k1 k3 k4 k5 s1 s3 s4 s5
  go_wp2_with fail
  refine (Hex_any _ _ _ [255] _ ?_ (by omega)).mono ?_
  · exact (one_rd (lm_small (by omega) (by omega)) (by simp)).more (by simp)
  rintro e w5 ⟨rfl, hb5⟩
  rw [vl_one, show (255 : Int).toNat = 255 from rfl, hex_ff]
  have hb6 := (hb4.alloc hb4.size (.cells #[.int .u64 255] 27)).trans (hb5.mono (by simp; have := hb4.size; omega))
  go_wp2
  go_ret
  exact ⟨rfl, hb6⟩
end Go.Proofs.Ytniippglkboieaa
