/-
 the document's answers for rows: Exp.
-/
import Derived.Test.YtiikmjnnlckiiaaGreatRref
import Derived.Test.YtiikmjnnlckiiaaGreatRans
namespace Go.Proofs.YtiikmjnnlckiiaaGreat
open Go.RowKit
set_option linter.unusedVariables false

/-- May a sum be of this? -/
def mayB (X q n d e : Int) : Bool := decide (0 ≤ q ∧ q ≤ 1200 ∧ 1 ≤ n ∧ n ≤ 400 ∧ 0 ≤ X) && decide (X * 2 ^ sc e ≤ d * 2 ^ sc q)
theorem sgnR (X : Int) : (sgnI X = -1 ∧ X < 0) ∨ (sgnI X = 0 ∧ X = 0) ∨ (sgnI X = 1 ∧ 0 < X) := by
 unfold sgnI
 split
 ·rename_i h; exact .inl ⟨rfl, h⟩
 ·split
  ·rename_i h; exact .inr (.inl ⟨rfl, h⟩)
  ·exact .inr (.inr ⟨rfl, by omega⟩)

set_option maxRecDepth 100000 in
set_option maxHeartbeats 8000000 in
theorem Rmay_any {b : Bool} {A : Option Addr} {n c : Nat} {X : Int} {j : Nat} {w : World} (h : Zr w b A n c X j) (q m d e : Int) (hd : 1 ≤ d ∧ d ≤ 10) (hj : j ≤ 1000) :
  Calls Tryz.prog 34 #[.agg #[.bool b, .slice A n c], .int .i64 q, .int .i64 m, .int .i64 d, .int .i64 e] w fun en w' => en = .returned (.bool (mayB X q m d e)) ∧ Below w.heap.size w w' := by
 unfold mayB
 obtain ⟨G, hG⟩ : ∃ G, decide (0 ≤ q ∧ q ≤ 1200 ∧ 1 ≤ m ∧ m ≤ 400 ∧ 0 ≤ X) = G := ⟨_, rfl⟩
 obtain ⟨L, hL⟩ : ∃ L, decide (X * 2 ^ sc e ≤ d * 2 ^ sc q) = L := ⟨_, rfl⟩
 rw [hG, hL]
 have HG := Lib.hid hG; have HL := Lib.hid hL; clear hG hL
 go_enter Tryz.func34, Tryz.ntmps34
 go_upto_region 1 with fail
 have x_a : Bx (w.alloc (.cells #[.bool b, .slice A n c] 25)) (w.heap.size) b A n c := by have := Bx.new w b A n c; simpa using this
 have hb : Below w.heap.size w (w.alloc (.cells #[.bool b, .slice A n c] 25)) := (Below.alloc (Below.refl w.heap.size w) (by simp) (.cells #[.bool b, .slice A n c] 25))
 generalize w.alloc (.cells #[.bool b, .slice A n c] 25) = v1 at *
 replace h := h.keep hb
 have q_a := x_a.al
 have hv0 := Below.refl v1.heap.size v1
 go_cut [30] (fun s9 wx => s9 = .bool (!G) ∧ Below v1.heap.size v1 wx)
 case first =>
  rcases sgnR X with ⟨sX, hX⟩ | ⟨sX, hX⟩ | ⟨sX, hX⟩
  ·have HS := Lib.hid sX; clear sX
   rcases (show q < 0 ∨ (0 ≤ q ∧ 1200 < q) ∨ (0 ≤ q ∧ q ≤ 1200 ∧ m < 1) ∨ (0 ≤ q ∧ q ≤ 1200 ∧ 1 ≤ m ∧ 400 < m) ∨ (0 ≤ q ∧ q ≤ 1200 ∧ 1 ≤ m ∧ m ≤ 400) by omega) with o1 | ⟨o1, o2⟩ | ⟨o1, o2, o3⟩ | ⟨o1, o2, o3, o4⟩ | ⟨o1, o2, o3, o4⟩
   ·have HF : Hid (G = false) := Lib.hid (by rw [← HG.out]; simp; omega)
    go_wp2_with fail
    go_meet
    exact ⟨by rw [HF.out]; rfl, hv0⟩
   ·have HF : Hid (G = false) := Lib.hid (by rw [← HG.out]; simp; omega)
    go_wp2_with fail
    go_meet
    exact ⟨by rw [HF.out]; rfl, hv0⟩
   ·have HF : Hid (G = false) := Lib.hid (by rw [← HG.out]; simp; omega)
    go_wp2_with fail
    go_meet
    exact ⟨by rw [HF.out]; rfl, hv0⟩
   ·have HF : Hid (G = false) := Lib.hid (by rw [← HG.out]; simp; omega)
    go_wp2_with fail
    go_meet
    exact ⟨by rw [HF.out]; rfl, hv0⟩
   ·have HF : Hid (G = false) := Lib.hid (by rw [← HG.out]; simp; omega)
    clear hX
    go_wp2_with fail
    with_reducible refine (RSignZ_any h (by omega)).mono ?_
    rintro e v2 ⟨rfl, hb1⟩
    replace hv0 := bthen hv0 hb1
    obtain ⟨x_a, h⟩ := mv2 hb1 x_a h
    replace hb := bthen hb hb1
    clear hb1
    replace q_a := x_a.al
    rw [HS.out]
    go_wp2_with fail
    go_meet
    exact ⟨by rw [HF.out]; first | rfl | (simp; omega), hv0⟩
  ·have HS := Lib.hid sX; clear sX
   rcases (show q < 0 ∨ (0 ≤ q ∧ 1200 < q) ∨ (0 ≤ q ∧ q ≤ 1200 ∧ m < 1) ∨ (0 ≤ q ∧ q ≤ 1200 ∧ 1 ≤ m ∧ 400 < m) ∨ (0 ≤ q ∧ q ≤ 1200 ∧ 1 ≤ m ∧ m ≤ 400) by omega) with o1 | ⟨o1, o2⟩ | ⟨o1, o2, o3⟩ | ⟨o1, o2, o3, o4⟩ | ⟨o1, o2, o3, o4⟩
   ·have HF : Hid (G = false) := Lib.hid (by rw [← HG.out]; simp; omega)
    go_wp2_with fail
    go_meet
    exact ⟨by rw [HF.out]; rfl, hv0⟩
   ·have HF : Hid (G = false) := Lib.hid (by rw [← HG.out]; simp; omega)
    go_wp2_with fail
    go_meet
    exact ⟨by rw [HF.out]; rfl, hv0⟩
   ·have HF : Hid (G = false) := Lib.hid (by rw [← HG.out]; simp; omega)
    go_wp2_with fail
    go_meet
    exact ⟨by rw [HF.out]; rfl, hv0⟩
   ·have HF : Hid (G = false) := Lib.hid (by rw [← HG.out]; simp; omega)
    go_wp2_with fail
    go_meet
    exact ⟨by rw [HF.out]; rfl, hv0⟩
   ·have HF : Hid (G = true) := Lib.hid (by rw [← HG.out]; simp; omega)
    clear hX
    go_wp2_with fail
    with_reducible refine (RSignZ_any h (by omega)).mono ?_
    rintro e v2 ⟨rfl, hb1⟩
    replace hv0 := bthen hv0 hb1
    obtain ⟨x_a, h⟩ := mv2 hb1 x_a h
    replace hb := bthen hb hb1
    clear hb1
    replace q_a := x_a.al
    rw [HS.out]
    go_wp2_with fail
    go_meet
    exact ⟨by rw [HF.out]; first | rfl | (simp; omega), hv0⟩
  ·have HS := Lib.hid sX; clear sX
   rcases (show q < 0 ∨ (0 ≤ q ∧ 1200 < q) ∨ (0 ≤ q ∧ q ≤ 1200 ∧ m < 1) ∨ (0 ≤ q ∧ q ≤ 1200 ∧ 1 ≤ m ∧ 400 < m) ∨ (0 ≤ q ∧ q ≤ 1200 ∧ 1 ≤ m ∧ m ≤ 400) by omega) with o1 | ⟨o1, o2⟩ | ⟨o1, o2, o3⟩ | ⟨o1, o2, o3, o4⟩ | ⟨o1, o2, o3, o4⟩
   ·have HF : Hid (G = false) := Lib.hid (by rw [← HG.out]; simp; omega)
    go_wp2_with fail
    go_meet
    exact ⟨by rw [HF.out]; rfl, hv0⟩
   ·have HF : Hid (G = false) := Lib.hid (by rw [← HG.out]; simp; omega)
    go_wp2_with fail
    go_meet
    exact ⟨by rw [HF.out]; rfl, hv0⟩
   ·have HF : Hid (G = false) := Lib.hid (by rw [← HG.out]; simp; omega)
    go_wp2_with fail
    go_meet
    exact ⟨by rw [HF.out]; rfl, hv0⟩
   ·have HF : Hid (G = false) := Lib.hid (by rw [← HG.out]; simp; omega)
    go_wp2_with fail
    go_meet
    exact ⟨by rw [HF.out]; rfl, hv0⟩
   ·have HF : Hid (G = true) := Lib.hid (by rw [← HG.out]; simp; omega)
    clear hX
    go_wp2_with fail
    with_reducible refine (RSignZ_any h (by omega)).mono ?_
    rintro e v2 ⟨rfl, hb1⟩
    replace hv0 := bthen hv0 hb1
    obtain ⟨x_a, h⟩ := mv2 hb1 x_a h
    replace hb := bthen hb hb1
    clear hb1
    replace q_a := x_a.al
    rw [HS.out]
    go_wp2_with fail
    go_meet
    exact ⟨by rw [HF.out]; first | rfl | (simp; omega), hv0⟩
 obtain ⟨rfl, hb1⟩ := hcut
 clear hv0
 obtain ⟨x_a, h⟩ := mv2 hb1 x_a h
 replace hb := bthen hb hb1
 clear hb1
 replace q_a := x_a.al
 clear q_a
 generalize wc = vT at *
 have q_a := x_a.al
 cases G
 ·go_wp2
  go_ret
  exact ⟨by simp, hb⟩
 ·obtain ⟨C, hC⟩ : ∃ C, sgnI (X * 2 ^ sc e - d * 2 ^ sc q) = C := ⟨_, rfl⟩
  have hc : (C ≤ 0 ∧ L = true) ∨ (0 < C ∧ L = false) := by
   rw [← hC, ← HL.out]
   rcases sgnR (X * 2 ^ sc e - d * 2 ^ sc q) with ⟨s1, h1⟩ | ⟨s1, h1⟩ | ⟨s1, h1⟩
   ·exact .inl ⟨by omega, by simp; omega⟩
   ·exact .inl ⟨by omega, by simp; omega⟩
   ·exact .inr ⟨by omega, by simp; omega⟩
  have HC := Lib.hid hC; clear hC
  go_wp2_with fail
  with_reducible refine (ROf_any d (by omega) (by omega)).mono ?_
  rintro e v2 ⟨A9, n9, c9, rfl, z9, hb1⟩
  obtain ⟨x_a, h⟩ := mv2 hb1 x_a h
  replace hb := bthen hb hb1
  clear hb1
  replace q_a := x_a.al
  go_wp2_with fail
  with_reducible refine (RShlZ_any z9.zr q 130 (by omega) (by omega)).mono ?_
  rintro e v3 ⟨A8, n8, c8, rfl, z8, hb1⟩
  obtain ⟨x_a, h, z9⟩ := mv3 hb1 x_a h z9
  replace hb := bthen hb hb1
  clear hb1
  replace q_a := x_a.al
  go_upto_region 4 with fail
  have hb1 := below_alloc v3 (.cells #[.bool (ngB (d * 2 ^ sc q)), .slice A8 n8 c8] 25)
  have l_a_m := x_a.lt
  have x_m := Bx.new v3 (ngB (d * 2 ^ sc q)) A8 n8 c8
  have e_m : w.heap.size ≤ v3.heap.size := hb.size
  clear q_a
  obtain ⟨x_a, h, z9, z8⟩ := mv4 hb1 x_a h z9 z8
  replace hb := bthen hb hb1
  clear hb1
  generalize v3.alloc (.cells #[.bool (ngB (d * 2 ^ sc q)), .slice A8 n8 c8] 25) = v4 at *
  have q_a := x_a.al
  have q_m := x_m.al
  rcases hc with ⟨c1, c2⟩ | ⟨c1, c2⟩
  all_goals
   go_region_held3 (fun w' => w'.cell? ⟨w.heap.size, 0, none⟩ = some (.bool b) ∧ w'.cell? ⟨w.heap.size, 1, none⟩ = some (.slice A n c) ∧ w'.cell? ⟨v3.heap.size, 0, none⟩ = some (.bool (ngB (d * 2 ^ sc q))) ∧ w'.cell? ⟨v3.heap.size, 1, none⟩ = some (.slice A8 n8 c8))
    (first | (with_reducible exact ⟨x_a.c0, x_a.c1, x_m.c0, x_m.c1⟩) | (with_reducible exact ⟨(x_a.aside (by omega)).c0, (x_a.aside (by omega)).c1, (x_m.aside (by omega)).c0, (x_m.aside (by omega)).c1⟩) | (with_reducible exact ⟨((x_a.aside (by omega)).aside (by omega)).c0, ((x_a.aside (by omega)).aside (by omega)).c1, ((x_m.aside (by omega)).aside (by omega)).c0, ((x_m.aside (by omega)).aside (by omega)).c1⟩) | (with_reducible exact ⟨(x_a.asideD (by omega)).c0, (x_a.asideD (by omega)).c1, (x_m.asideD (by omega)).c0, (x_m.asideD (by omega)).c1⟩) | (with_reducible exact ⟨((x_a.asideD (by omega)).asideD (by omega)).c0, ((x_a.asideD (by omega)).asideD (by omega)).c1, ((x_m.asideD (by omega)).asideD (by omega)).c0, ((x_m.asideD (by omega)).asideD (by omega)).c1⟩) | (with_reducible exact ⟨(x_a.asideL (by omega)).c0, (x_a.asideL (by omega)).c1, (x_m.asideL (by omega)).c0, (x_m.asideL (by omega)).c1⟩) | (with_reducible exact ⟨((x_a.asideL (by omega)).asideL (by omega)).c0, ((x_a.asideL (by omega)).asideL (by omega)).c1, ((x_m.asideL (by omega)).asideL (by omega)).c0, ((x_m.asideL (by omega)).asideL (by omega)).c1⟩) | go_keep)
    (first | (go_at_call 32; (with_reducible refine (RShlZ_any h.drw e 1130 (by omega) (by omega)).mono ?_); rintro e v5 ⟨A7, n7, c7, rfl, z7, hb1⟩; replace hb1 := undrew hb1; obtain ⟨x_a, x_m, h, z9, z8⟩ := mv5 hb1 x_a x_m h z9 z8; replace hb := bthen hb hb1; clear hb1; replace q_a := x_a.al; replace q_m := x_m.al) | (go_at_call 75; (with_reducible refine (RCmpZ_any z7.zr z8.zr 2000 (by omega) (by omega) (by omega)).mono ?_); rintro e v6 ⟨rfl, hb1⟩; obtain ⟨x_a, x_m, h, z9, z8, z7⟩ := mv6 hb1 x_a x_m h z9 z8 z7; replace hb := bthen hb hb1; clear hb1; replace q_a := x_a.al; replace q_m := x_m.al; rw [HC.out]))
   go_wp2
   go_ret
   exact ⟨by first | (simp [c2]; done) | (simp [c2]; omega), hb⟩

end Go.Proofs.YtiikmjnnlckiiaaGreat
namespace Go.Proofs.YtiikmjnnlckiiaaGreat
open Go.RowKit
set_option linter.unusedVariables false

theorem may_yes {X : Int} {Q M : Nat} {d e : Int} (hQ : Q ≤ 1200) (hM : 1 ≤ M ∧ M ≤ 400) (h0 : 0 ≤ X) (h : X * 2 ^ sc e ≤ d * twP Q) : mayB X Q M d e = true := by
 unfold mayB
 have hs : sc (Q : Int) = Q := by rw [sc_natR (by omega) (by omega)]; simp
 rw [hs]
 unfold twP at h
 simp
 omega
theorem Zn.nl (w : World) (k : Nat) : Zn w none 0 0 0 k := ⟨by show Rd w w.heap.size none 0 0 (dg Wd 0); rw [dg_zero]; exact Rd.nil, Nat.zero_le _⟩
theorem sc_one : sc 1 = 1 := rfl

end Go.Proofs.YtiikmjnnlckiiaaGreat
