/-
 rows: allowed.
-/
import Derived.Test.YtiikmjnnlckiiaaGreatKfun
namespace Go.Proofs.YtiikmjnnlckiiaaGreat
open Go.RowKit
set_option linter.unusedVariables false

/-- Is a sum allowed of this? -/
def okB (X q n d : Int) : Bool := decide (0 ≤ q ∧ q ≤ 1200 ∧ 1 ≤ n ∧ n ≤ 400 ∧ 0 ≤ X) && decide (2 * X ≤ d * 2 ^ sc q)
set_option maxRecDepth 100000 in
set_option maxHeartbeats 8000000 in
theorem Kallowed_any {b : Bool} {A : Option Addr} {n c : Nat} {X : Int} {j : Nat} {w : World} (h : Zr w b A n c X j) (q m d : Int) (hd : 1 ≤ d ∧ d ≤ 10) (hj : j ≤ 1000) :
  Calls Tryz.prog 65 #[.agg #[.bool b, .slice A n c], .int .i64 q, .int .i64 m, .int .i64 d] w fun en w' => en = .returned (.bool (okB X q m d)) ∧ Below w.heap.size w w' := by
 unfold okB
 obtain ⟨G, hG⟩ : ∃ G, decide (0 ≤ q ∧ q ≤ 1200 ∧ 1 ≤ m ∧ m ≤ 400 ∧ 0 ≤ X) = G := ⟨_, rfl⟩
 obtain ⟨L, hL⟩ : ∃ L, decide (2 * X ≤ d * 2 ^ sc q) = L := ⟨_, rfl⟩
 rw [hG, hL]
 have HG := Lib.hid hG; have HL := Lib.hid hL; clear hG hL
 go_enter Tryz.func65, Tryz.ntmps65
 go_upto_region 1 with fail
 have x_a : Bx (w.alloc (.cells #[.bool b, .slice A n c] 25)) (w.heap.size) b A n c := by have := Bx.new w b A n c; simpa using this
 have hb : Below w.heap.size w (w.alloc (.cells #[.bool b, .slice A n c] 25)) := (Below.alloc (Below.refl w.heap.size w) (by simp) (.cells #[.bool b, .slice A n c] 25))
 generalize w.alloc (.cells #[.bool b, .slice A n c] 25) = v1 at *
 replace h := h.keep hb
 have q_a := x_a.al
 have hv0 := Below.refl v1.heap.size v1
 go_cut [27] (fun s9 wx => s9 = .bool (!G) ∧ Below v1.heap.size v1 wx)
 case first =>
  rcases sgnK X with ⟨sX, hX⟩ | ⟨sX, hX⟩ | ⟨sX, hX⟩
  ·have HS := Lib.hid sX; clear sX
   rcases (show q < 0 ∨ (0 ≤ q ∧ 1200 < q) ∨ (0 ≤ q ∧ q ≤ 1200 ∧ m < 1) ∨ (0 ≤ q ∧ q ≤ 1200 ∧ 1 ≤ m ∧ 400 < m) ∨ (0 ≤ q ∧ q ≤ 1200 ∧ 1 ≤ m ∧ m ≤ 400) by omega) with o1 | ⟨o1, o2⟩ | ⟨o1, o2, o3⟩ | ⟨o1, o2, o3, o4⟩ | ⟨o1, o2, o3, o4⟩
   ·have HF : Hid (G = false) := Lib.hid (by rw [← HG.out]; simp; omega)
    go_wp2_with fail
    go_meet
    exact ⟨by rw [HF.out]; rfl, hv0⟩
   ·have HF : Hid (G = false) := Lib.hid (by rw [← HG.out]; simp; omega)
    go_wp2_with fail
    go_meet
    exact ⟨by rw [HF.out]; rfl, hv0⟩
   ·have HF : Hid (G = false) := Lib.hid (by rw [← HG.out]; simp; omega)
    go_wp2_with fail
    go_meet
    exact ⟨by rw [HF.out]; rfl, hv0⟩
   ·have HF : Hid (G = false) := Lib.hid (by rw [← HG.out]; simp; omega)
    go_wp2_with fail
    go_meet
    exact ⟨by rw [HF.out]; rfl, hv0⟩
   ·have HF : Hid (G = false) := Lib.hid (by rw [← HG.out]; simp; omega)
    clear hX
    go_wp2_with fail
    with_reducible refine (ZSign_any h (by omega)).mono ?_
    rintro e v2 ⟨rfl, hb1⟩
    replace hv0 := bthen hv0 hb1
    obtain ⟨x_a, h⟩ := mv2 hb1 x_a h
    replace hb := bthen hb hb1
    clear hb1
    replace q_a := x_a.al
    rw [HS.out]
    go_wp2_with fail
    go_meet
    exact ⟨by rw [HF.out]; first | rfl | (simp; omega), hv0⟩
  ·have HS := Lib.hid sX; clear sX
   rcases (show q < 0 ∨ (0 ≤ q ∧ 1200 < q) ∨ (0 ≤ q ∧ q ≤ 1200 ∧ m < 1) ∨ (0 ≤ q ∧ q ≤ 1200 ∧ 1 ≤ m ∧ 400 < m) ∨ (0 ≤ q ∧ q ≤ 1200 ∧ 1 ≤ m ∧ m ≤ 400) by omega) with o1 | ⟨o1, o2⟩ | ⟨o1, o2, o3⟩ | ⟨o1, o2, o3, o4⟩ | ⟨o1, o2, o3, o4⟩
   ·have HF : Hid (G = false) := Lib.hid (by rw [← HG.out]; simp; omega)
    go_wp2_with fail
    go_meet
    exact ⟨by rw [HF.out]; rfl, hv0⟩
   ·have HF : Hid (G = false) := Lib.hid (by rw [← HG.out]; simp; omega)
    go_wp2_with fail
    go_meet
    exact ⟨by rw [HF.out]; rfl, hv0⟩
   ·have HF : Hid (G = false) := Lib.hid (by rw [← HG.out]; simp; omega)
    go_wp2_with fail
    go_meet
    exact ⟨by rw [HF.out]; rfl, hv0⟩
   ·have HF : Hid (G = false) := Lib.hid (by rw [← HG.out]; simp; omega)
    go_wp2_with fail
    go_meet
    exact ⟨by rw [HF.out]; rfl, hv0⟩
   ·have HF : Hid (G = true) := Lib.hid (by rw [← HG.out]; simp; omega)
    clear hX
    go_wp2_with fail
    with_reducible refine (ZSign_any h (by omega)).mono ?_
    rintro e v2 ⟨rfl, hb1⟩
    replace hv0 := bthen hv0 hb1
    obtain ⟨x_a, h⟩ := mv2 hb1 x_a h
    replace hb := bthen hb hb1
    clear hb1
    replace q_a := x_a.al
    rw [HS.out]
    go_wp2_with fail
    go_meet
    exact ⟨by rw [HF.out]; first | rfl | (simp; omega), hv0⟩
  ·have HS := Lib.hid sX; clear sX
   rcases (show q < 0 ∨ (0 ≤ q ∧ 1200 < q) ∨ (0 ≤ q ∧ q ≤ 1200 ∧ m < 1) ∨ (0 ≤ q ∧ q ≤ 1200 ∧ 1 ≤ m ∧ 400 < m) ∨ (0 ≤ q ∧ q ≤ 1200 ∧ 1 ≤ m ∧ m ≤ 400) by omega) with o1 | ⟨o1, o2⟩ | ⟨o1, o2, o3⟩ | ⟨o1, o2, o3, o4⟩ | ⟨o1, o2, o3, o4⟩
   ·have HF : Hid (G = false) := Lib.hid (by rw [← HG.out]; simp; omega)
    go_wp2_with fail
    go_meet
    exact ⟨by rw [HF.out]; rfl, hv0⟩
   ·have HF : Hid (G = false) := Lib.hid (by rw [← HG.out]; simp; omega)
    go_wp2_with fail
    go_meet
    exact ⟨by rw [HF.out]; rfl, hv0⟩
   ·have HF : Hid (G = false) := Lib.hid (by rw [← HG.out]; simp; omega)
    go_wp2_with fail
    go_meet
    exact ⟨by rw [HF.out]; rfl, hv0⟩
   ·have HF : Hid (G = false) := Lib.hid (by rw [← HG.out]; simp; omega)
    go_wp2_with fail
    go_meet
    exact ⟨by rw [HF.out]; rfl, hv0⟩
   ·have HF : Hid (G = true) := Lib.hid (by rw [← HG.out]; simp; omega)
    clear hX
    go_wp2_with fail
    with_reducible refine (ZSign_any h (by omega)).mono ?_
    rintro e v2 ⟨rfl, hb1⟩
    replace hv0 := bthen hv0 hb1
    obtain ⟨x_a, h⟩ := mv2 hb1 x_a h
    replace hb := bthen hb hb1
    clear hb1
    replace q_a := x_a.al
    rw [HS.out]
    go_wp2_with fail
    go_meet
    exact ⟨by rw [HF.out]; first | rfl | (simp; omega), hv0⟩
 case rest =>
  obtain ⟨rfl, hb1⟩ := hcut
  clear hv0
  obtain ⟨x_a, h⟩ := mv2 hb1 x_a h
  replace hb := bthen hb hb1
  clear hb1
  replace q_a := x_a.al
  clear q_a
  generalize wc = vT at *
  have q_a := x_a.al
  cases G
  ·go_wp2
   go_ret
   exact ⟨by simp, hb⟩
  ·obtain ⟨C, hC⟩ : ∃ C, sgnI (X * 2 ^ sc 1 - d * 2 ^ sc q) = C := ⟨_, rfl⟩
   have hc : (C ≤ 0 ∧ L = true) ∨ (0 < C ∧ L = false) := by
    rw [← hC, ← HL.out]
    have e1 : X * 2 ^ sc 1 = 2 * X := by rw [show sc 1 = 1 from rfl]; omega
    rw [e1]
    rcases sgnK (2 * X - d * 2 ^ sc q) with ⟨s1, h1⟩ | ⟨s1, h1⟩ | ⟨s1, h1⟩
    ·exact .inl ⟨by omega, by simp; omega⟩
    ·exact .inl ⟨by omega, by simp; omega⟩
    ·exact .inr ⟨by omega, by simp; omega⟩
   have HC := Lib.hid hC; clear hC
   go_wp2_with fail
   with_reducible refine (ZShl_any h 1 1130 (by omega) (by omega)).mono ?_
   rintro e v2 ⟨A7, n7, c7, rfl, z7, hb1⟩
   obtain ⟨x_a, h⟩ := mv2 hb1 x_a h
   replace hb := bthen hb hb1
   clear hb1
   replace q_a := x_a.al
   go_wp2_with fail
   with_reducible refine (ZOf_any d (by omega) (by omega)).mono ?_
   rintro e v3 ⟨A9, n9, c9, rfl, z9, hb1⟩
   obtain ⟨x_a, h, z7⟩ := mv3 hb1 x_a h z7
   replace hb := bthen hb hb1
   clear hb1
   replace q_a := x_a.al
   go_wp2_with fail
   with_reducible refine (ZShl_any z9.zr q 130 (by omega) (by omega)).mono ?_
   rintro e v4 ⟨A8, n8, c8, rfl, z8, hb1⟩
   obtain ⟨x_a, h, z7, z9⟩ := mv4 hb1 x_a h z7 z9
   replace hb := bthen hb hb1
   clear hb1
   replace q_a := x_a.al
   go_wp2_with fail
   with_reducible refine (ZCmp_any z7.zr z8.zr (by omega) (by omega)).mono ?_
   rintro e v5 ⟨rfl, hb1⟩
   obtain ⟨x_a, h, z7, z9, z8⟩ := mv5 hb1 x_a h z7 z9 z8
   replace hb := bthen hb hb1
   clear hb1
   replace q_a := x_a.al
   rw [HC.out]
   rcases hc with ⟨c1, c2⟩ | ⟨c1, c2⟩
   all_goals (go_wp2; go_ret; exact ⟨by first | (simp [c2]; done) | (simp [c2]; omega), hb⟩)

end Go.Proofs.YtiikmjnnlckiiaaGreat
