/-
  The law NatTexts, as a call.
-/
import Derived.Test.YtniippglkboieaaRhex
import Derived.Test.YtniippglkboieaaStands
namespace Go.Proofs.Ytniippglkboieaa
open Go.RowKit
set_option linter.unusedVariables false

set_option maxHeartbeats 4000000 in
theorem NatTexts_any (A : Option Addr) (n c : Nat) (l1 : List Int) (s : ByteArray) (w : World) (ga : Rd w w.heap.size A n c l1) (_hs : s.size ≤ maxLen) :
    Calls Try.prog 8 #[.slice A n c, .string s] w fun e w' => e = .returned (.bool true) ∧ Below w.heap.size w w' := by
  go_enter Try.func8, Try.ntmps8
  go_wp2_with fail
  refine (shown_any _).mono ?_
  rintro e w1 ⟨rfl, hb⟩
  have ga := (ga.below hb).more hb.size
  go_wp2_with fail
  refine (cut_any _ _ _ _ 40 _ _ ga (by omega)).mono ?_
  rintro e w' ⟨A2, n2, c2, rfl, hn2, ga, rfl⟩
  have m_ga := Sm.of ga hn2
  generalize hN_ga : vl Wd (l1.take 40) = N at *
  have HN_ga := Lib.hid hN_ga; clear hN_ga
  generalize (l1.take 40) = k_ga at *
  by_cases hlong : 600 < s.size
  · have hx : (600 : Int) < s.size := by omega
    have hsz : (s.extract 0 600).size ≤ 600 := by rw [ByteArray.size_extract]; omega
    go_wp2_with fail
    generalize s.extract 0 600 = t at *
    go_wp2_with fail
    refine (Parse_any t _ (by omega)).mono ?_
    rintro e w3 hp1
    rcases hp1 with ⟨hok, A3, n3, c3, rfl, g3, hb1⟩ | ⟨hbad, rfl, hb1⟩
    · have ga := (ga.below hb1).more hb1.size
      have hb := hb.trans (hb1.mono hb.size)
      clear hb1
      go_wp2_with fail
      refine (RParse_any t _ (by omega)).mono ?_
      rintro e w4 hp2
      rcases hp2 with ⟨_, A4, n4, c4, rfl, g4, hb1⟩ | ⟨hbad, _, _⟩
      rotate_left
      · exact absurd hok hbad
      have ga := (ga.below hb1).more hb1.size
      have g3 := (g3.below hb1).more hb1.size
      have hb := hb.trans (hb1.mono hb.size)
      clear hb1
      go_wp2_with fail
      refine (Same_any _ _ _ _ _ _ _ _ _ _ g3 g4).mono ?_
      rintro e w5 ⟨rfl, hq⟩
      rw [sameB_dg (rfl)]
      have hb1 := hq.bel
      clear hq
      have ga := (ga.below hb1).more hb1.size
      have hb := hb.trans (hb1.mono hb.size)
      clear hb1 g3 g4
      obtain ⟨X, hX⟩ : ∃ X, ByteArray.mk (tl N (hexN N)).toArray = X := ⟨_, rfl⟩
      have HX := Lib.hid hX; clear hX
      go_wp2_with fail
      refine (Hex_any _ _ _ _ _ ga (by omega)).mono ?_
      rintro e w6 ⟨rfl, hb1⟩
      rw [HN_ga.out, HX.out]
      have ga := (ga.below hb1).more hb1.size
      have hb := hb.trans (hb1.mono hb.size)
      clear hb1
      go_wp2_with fail
      refine (RHex_any _ _ _ _ _ ga (by omega)).mono ?_
      rintro e w7 ⟨rfl, hb1⟩
      rw [HN_ga.out, HX.out]
      have ga := (ga.below hb1).more hb1.size
      have hb := hb.trans (hb1.mono hb.size)
      clear hb1
      go_wp2
      go_ret
      exact ⟨by first | rfl | simp, hb⟩
    · have ga := (ga.below hb1).more hb1.size
      have hb := hb.trans (hb1.mono hb.size)
      clear hb1
      go_wp2_with fail
      refine (RParse_any t _ (by omega)).mono ?_
      rintro e w4 hp2
      rcases hp2 with ⟨hok, _⟩ | ⟨_, rfl, hb1⟩
      · exact absurd hok hbad
      have ga := (ga.below hb1).more hb1.size
      have hb := hb.trans (hb1.mono hb.size)
      clear hb1
      go_wp2_with fail
      refine (Same_any none none 0 0 0 0 [] [] _ w4.heap.size Rd.nil Rd.nil).mono ?_
      rintro e w5 ⟨rfl, hq⟩
      rw [sameB_self]
      have hb1 := hq.bel
      clear hq
      have ga := (ga.below hb1).more hb1.size
      have hb := hb.trans (hb1.mono hb.size)
      clear hb1
      obtain ⟨X, hX⟩ : ∃ X, ByteArray.mk (tl N (hexN N)).toArray = X := ⟨_, rfl⟩
      have HX := Lib.hid hX; clear hX
      go_wp2_with fail
      refine (Hex_any _ _ _ _ _ ga (by omega)).mono ?_
      rintro e w6 ⟨rfl, hb1⟩
      rw [HN_ga.out, HX.out]
      have ga := (ga.below hb1).more hb1.size
      have hb := hb.trans (hb1.mono hb.size)
      clear hb1
      go_wp2_with fail
      refine (RHex_any _ _ _ _ _ ga (by omega)).mono ?_
      rintro e w7 ⟨rfl, hb1⟩
      rw [HN_ga.out, HX.out]
      have ga := (ga.below hb1).more hb1.size
      have hb := hb.trans (hb1.mono hb.size)
      clear hb1
      go_wp2
      go_ret
      exact ⟨by first | rfl | simp, hb⟩
  · have hx : ¬ (600 : Int) < s.size := by omega
    have hsz : s.size ≤ 600 := by omega
    obtain ⟨t, rfl⟩ : ∃ t, t = s := ⟨_, rfl⟩
    go_wp2_with fail
    refine (Parse_any t _ (by omega)).mono ?_
    rintro e w3 hp1
    rcases hp1 with ⟨hok, A3, n3, c3, rfl, g3, hb1⟩ | ⟨hbad, rfl, hb1⟩
    · have ga := (ga.below hb1).more hb1.size
      have hb := hb.trans (hb1.mono hb.size)
      clear hb1
      go_wp2_with fail
      refine (RParse_any t _ (by omega)).mono ?_
      rintro e w4 hp2
      rcases hp2 with ⟨_, A4, n4, c4, rfl, g4, hb1⟩ | ⟨hbad, _, _⟩
      rotate_left
      · exact absurd hok hbad
      have ga := (ga.below hb1).more hb1.size
      have g3 := (g3.below hb1).more hb1.size
      have hb := hb.trans (hb1.mono hb.size)
      clear hb1
      go_wp2_with fail
      refine (Same_any _ _ _ _ _ _ _ _ _ _ g3 g4).mono ?_
      rintro e w5 ⟨rfl, hq⟩
      rw [sameB_dg (rfl)]
      have hb1 := hq.bel
      clear hq
      have ga := (ga.below hb1).more hb1.size
      have hb := hb.trans (hb1.mono hb.size)
      clear hb1 g3 g4
      obtain ⟨X, hX⟩ : ∃ X, ByteArray.mk (tl N (hexN N)).toArray = X := ⟨_, rfl⟩
      have HX := Lib.hid hX; clear hX
      go_wp2_with fail
      refine (Hex_any _ _ _ _ _ ga (by omega)).mono ?_
      rintro e w6 ⟨rfl, hb1⟩
      rw [HN_ga.out, HX.out]
      have ga := (ga.below hb1).more hb1.size
      have hb := hb.trans (hb1.mono hb.size)
      clear hb1
      go_wp2_with fail
      refine (RHex_any _ _ _ _ _ ga (by omega)).mono ?_
      rintro e w7 ⟨rfl, hb1⟩
      rw [HN_ga.out, HX.out]
      have ga := (ga.below hb1).more hb1.size
      have hb := hb.trans (hb1.mono hb.size)
      clear hb1
      go_wp2
      go_ret
      exact ⟨by first | rfl | simp, hb⟩
    · have ga := (ga.below hb1).more hb1.size
      have hb := hb.trans (hb1.mono hb.size)
      clear hb1
      go_wp2_with fail
      refine (RParse_any t _ (by omega)).mono ?_
      rintro e w4 hp2
      rcases hp2 with ⟨hok, _⟩ | ⟨_, rfl, hb1⟩
      · exact absurd hok hbad
      have ga := (ga.below hb1).more hb1.size
      have hb := hb.trans (hb1.mono hb.size)
      clear hb1
      go_wp2_with fail
      refine (Same_any none none 0 0 0 0 [] [] _ w4.heap.size Rd.nil Rd.nil).mono ?_
      rintro e w5 ⟨rfl, hq⟩
      rw [sameB_self]
      have hb1 := hq.bel
      clear hq
      have ga := (ga.below hb1).more hb1.size
      have hb := hb.trans (hb1.mono hb.size)
      clear hb1
      obtain ⟨X, hX⟩ : ∃ X, ByteArray.mk (tl N (hexN N)).toArray = X := ⟨_, rfl⟩
      have HX := Lib.hid hX; clear hX
      go_wp2_with fail
      refine (Hex_any _ _ _ _ _ ga (by omega)).mono ?_
      rintro e w6 ⟨rfl, hb1⟩
      rw [HN_ga.out, HX.out]
      have ga := (ga.below hb1).more hb1.size
      have hb := hb.trans (hb1.mono hb.size)
      clear hb1
      go_wp2_with fail
      refine (RHex_any _ _ _ _ _ ga (by omega)).mono ?_
      rintro e w7 ⟨rfl, hb1⟩
      rw [HN_ga.out, HX.out]
      have ga := (ga.below hb1).more hb1.size
      have hb := hb.trans (hb1.mono hb.size)
      clear hb1
      go_wp2
      go_ret
      exact ⟨by first | rfl | simp, hb⟩
end Go.Proofs.Ytniippglkboieaa
