/-
  The document's answer for zed: Small.
-/
import Derived.Test.YtcoidcbbdibnaaaZref3
import Derived.Test.YtcoidcbbdibnaaaZsmall
namespace Go.Proofs.Ytcoidcbbdibnaaa
open Go.RowKit
set_option linter.unusedVariables false

theorem dg_lone {N : Nat} (h0 : 0 < N) (h1 : N < Wd) : dg Wd N = [(N : Int)] := by rw [dg_pos Wd2 h0, Nat.mod_eq_of_lt h1, Nat.div_eq_of_lt h1, dg_zero]
theorem neg_small {x : Int} (h0 : 0 < x) (h1 : x ≤ 9223372036854775808) : IntKind.u64.wrap (x - 1) = x - 1 ∧ IntKind.i64.wrap (x - 1) = x - 1 ∧ IntKind.i64.wrap (-(x - 1)) = -(x - 1) ∧ IntKind.i64.wrap (-(x - 1) - 1) = -x := by
  refine ⟨by rw [wrap_u64]; omega, IntWalk.i64_in _ ⟨by omega, by omega⟩, IntWalk.i64_in _ ⟨by omega, by omega⟩, ?_⟩
  rw [IntWalk.i64_in _ ⟨by omega, by omega⟩]; omega

set_option maxRecDepth 100000 in
set_option maxHeartbeats 4000000 in
theorem RSmallZ_any {b : Bool} {A : Option Addr} {n c : Nat} {X : Int} {j : Nat} {w : World} (h : Zr w b A n c X j) (hj : j ≤ 100000) :
    Calls Try.prog 11 #[.agg #[.bool b, .slice A n c]] w (SmPost w X) := by
  rcases (show X = 0 ∨ Wd ≤ X.natAbs ∨ (0 < X.natAbs ∧ X.natAbs < Wd) by omega) with h0 | h0 | ⟨h0, h1⟩
  · have HX := Lib.hid h0
    have hng : ngB X = false := by rw [h0]; rfl
    have HNG := Lib.hid hng; clear hng h0
    go_enter Try.func11, Try.ntmps11
    go_wp2_with fail
    obtain ⟨hb, x_a⟩ := box1 w b A n c
    generalize w.alloc (.cells #[.bool b, .slice A n c] 24) = v1 at *
    replace h := h.keep hb
    have q_a0 := x_a.c0; have q_a1 := x_a.c1; have f_a0 := x_a.fr 0; have f_a1 := x_a.fr 1
    go_wp2_with fail
    with_reducible refine (RNormZ_any h j (Nat.le_refl _) (by omega)).mono ?_
    rintro e v2 ⟨A1, n1, c1, rfl, z1, hb1⟩
    replace x_a := x_a.keep hb1
    replace h := h.keep hb1
    replace hb := bthen hb hb1
    clear hb1
    replace q_a0 := x_a.c0; replace q_a1 := x_a.c1; replace f_a0 := x_a.fr 0; replace f_a1 := x_a.fr 1
    rw [HNG.out]
    obtain rfl := (zn_len z1).1 HX.out
    have x3 := x_a.put false A1 0 c1; have z3 := z1.put (b' := false) (A' := A1) (n' := 0) (c' := c1) x_a; have hb3 := put_below (g := w.heap.size) hb (by omega) (.bool false) (.slice A1 0 c1)
    have y0 := x3.c0; have y1 := x3.c1
    go_wp2
    all_goals go_ret2
    all_goals exact SmPost.yes (by rw [HX.out]; omega) HX.out.symm hb3
  · have hno : ¬ (-9223372036854775808 ≤ X ∧ X ≤ 9223372036854775807) := by rw [Wd_eq] at h0; omega
    have HNO := Lib.hid hno; have HH := Lib.hid h0; clear hno h0
    obtain ⟨ng, hng⟩ : ∃ ng, ngB X = ng := ⟨_, rfl⟩
    have HNG := Lib.hid hng; clear hng
    go_enter Try.func11, Try.ntmps11
    go_wp2_with fail
    obtain ⟨hb, x_a⟩ := box1 w b A n c
    generalize w.alloc (.cells #[.bool b, .slice A n c] 24) = v1 at *
    replace h := h.keep hb
    have q_a0 := x_a.c0; have q_a1 := x_a.c1; have f_a0 := x_a.fr 0; have f_a1 := x_a.fr 1
    go_wp2_with fail
    with_reducible refine (RNormZ_any h j (Nat.le_refl _) (by omega)).mono ?_
    rintro e v2 ⟨A1, n1, c1, rfl, z1, hb1⟩
    replace x_a := x_a.keep hb1
    replace h := h.keep hb1
    replace hb := bthen hb hb1
    clear hb1
    replace q_a0 := x_a.c0; replace q_a1 := x_a.c1; replace f_a0 := x_a.fr 0; replace f_a1 := x_a.fr 1
    rw [HNG.out]
    have hn2 : 1 < n1 := by
        rcases Nat.lt_or_ge 1 n1 with h5 | h5
        · exact h5
        · have h6 := dg_lt Wd2 (show (dg Wd X.natAbs).length ≤ 1 by rw [z1.1.len]; exact h5)
          rw [Nat.pow_one] at h6; have := HH.out; omega
    have hb0 : ((n1 : Int) == 0) = false := by simp; omega
    have hb1x : (1 : Int) < n1 := by omega
    have x3 := x_a.put ng A1 n1 c1; have z3 := z1.put (b' := ng) (A' := A1) (n' := n1) (c' := c1) x_a; have hb3 := put_below (g := w.heap.size) hb (by omega) (.bool ng) (.slice A1 n1 c1)
    have y0 := x3.c0; have y1 := x3.c1
    go_wp2
    all_goals go_ret2
    all_goals exact SmPost.no HNO.out hb3
  · have hdg := dg_lone h0 h1
    obtain ⟨x, hx⟩ : ∃ x : Int, (X.natAbs : Int) = x := ⟨_, rfl⟩
    have hx0 : 0 < x := by omega
    have hx1 : x < 18446744073709551616 := by rw [Wd_eq] at h1; omega
    have HDG := Lib.hid hdg; have HXE := Lib.hid hx; clear hdg h0 h1
    rcases Int.lt_or_le X 0 with hneg | hpos
    · have HNG := Lib.hid (ngB_neg hneg)
      have HXX : Hid (X = -x) := Lib.hid (by omega); clear hneg hx
      by_cases hs : x ≤ 9223372036854775808
      · have hlen1 : ∀ n1 : Nat, (dg Wd X.natAbs).length = n1 → n1 = 1 := fun n1 h9 => by rw [HDG.out] at h9; exact h9.symm
        have HLEN1 := Lib.hid hlen1; clear hlen1
        obtain ⟨w1, w2, w3, w4⟩ := neg_small hx0 hs
        go_enter Try.func11, Try.ntmps11
        go_wp2_with fail
        obtain ⟨hb, x_a⟩ := box1 w b A n c
        generalize w.alloc (.cells #[.bool b, .slice A n c] 24) = v1 at *
        replace h := h.keep hb
        have q_a0 := x_a.c0; have q_a1 := x_a.c1; have f_a0 := x_a.fr 0; have f_a1 := x_a.fr 1
        go_wp2_with fail
        with_reducible refine (RNormZ_any h j (Nat.le_refl _) (by omega)).mono ?_
        rintro e v2 ⟨A1, n1, c1, rfl, z1, hb1⟩
        replace x_a := x_a.keep hb1
        replace h := h.keep hb1
        replace hb := bthen hb hb1
        clear hb1
        replace q_a0 := x_a.c0; replace q_a1 := x_a.c1; replace f_a0 := x_a.fr 0; replace f_a1 := x_a.fr 1
        rw [HNG.out]
        obtain rfl := HLEN1.out n1 z1.1.len
        have x3 := x_a.put true A1 1 c1; have z3 := z1.put (b' := true) (A' := A1) (n' := 1) (c' := c1) x_a; have hb3 := put_below (g := w.heap.size) hb (by omega) (.bool true) (.slice A1 1 c1)
        have y0 := x3.c0; have y1 := x3.c1
        obtain ⟨bb, oo, rfl, _, hcc⟩ := z3.1.at_ (by omega)
        rw [HDG.out] at hcc
        have hc0 := hcc 0 (by simp)
        simp only [Nat.add_zero, List.getElem_cons_zero, HXE.out] at hc0
        have hcap := z3.1.cap
        clear hcc z3 z1
        go_wp2
        all_goals go_ret2
        all_goals exact SmPost.yes (by rw [HXX.out]; omega) (by rw [HXX.out]) hb3
      · have hlen1 : ∀ n1 : Nat, (dg Wd X.natAbs).length = n1 → n1 = 1 := fun n1 h9 => by rw [HDG.out] at h9; exact h9.symm
        have HLEN1 := Lib.hid hlen1; clear hlen1
        go_enter Try.func11, Try.ntmps11
        go_wp2_with fail
        obtain ⟨hb, x_a⟩ := box1 w b A n c
        generalize w.alloc (.cells #[.bool b, .slice A n c] 24) = v1 at *
        replace h := h.keep hb
        have q_a0 := x_a.c0; have q_a1 := x_a.c1; have f_a0 := x_a.fr 0; have f_a1 := x_a.fr 1
        go_wp2_with fail
        with_reducible refine (RNormZ_any h j (Nat.le_refl _) (by omega)).mono ?_
        rintro e v2 ⟨A1, n1, c1, rfl, z1, hb1⟩
        replace x_a := x_a.keep hb1
        replace h := h.keep hb1
        replace hb := bthen hb hb1
        clear hb1
        replace q_a0 := x_a.c0; replace q_a1 := x_a.c1; replace f_a0 := x_a.fr 0; replace f_a1 := x_a.fr 1
        rw [HNG.out]
        obtain rfl := HLEN1.out n1 z1.1.len
        have x3 := x_a.put true A1 1 c1; have z3 := z1.put (b' := true) (A' := A1) (n' := 1) (c' := c1) x_a; have hb3 := put_below (g := w.heap.size) hb (by omega) (.bool true) (.slice A1 1 c1)
        have y0 := x3.c0; have y1 := x3.c1
        obtain ⟨bb, oo, rfl, _, hcc⟩ := z3.1.at_ (by omega)
        rw [HDG.out] at hcc
        have hc0 := hcc 0 (by simp)
        simp only [Nat.add_zero, List.getElem_cons_zero, HXE.out] at hc0
        have hcap := z3.1.cap
        clear hcc z3 z1
        go_wp2
        all_goals go_ret2
        all_goals exact SmPost.no (by rw [HXX.out]; omega) hb3
    · have HNG : Hid (ngB X = false) := Lib.hid (by unfold ngB; simpa using hpos)
      have HXX : Hid (X = x) := Lib.hid (by omega); clear hpos hx
      by_cases hs : x < 9223372036854775808
      · have hlen1 : ∀ n1 : Nat, (dg Wd X.natAbs).length = n1 → n1 = 1 := fun n1 h9 => by rw [HDG.out] at h9; exact h9.symm
        have HLEN1 := Lib.hid hlen1; clear hlen1
        have w1 : IntKind.i64.wrap x = x := IntWalk.i64_in _ ⟨by omega, by omega⟩
        go_enter Try.func11, Try.ntmps11
        go_wp2_with fail
        obtain ⟨hb, x_a⟩ := box1 w b A n c
        generalize w.alloc (.cells #[.bool b, .slice A n c] 24) = v1 at *
        replace h := h.keep hb
        have q_a0 := x_a.c0; have q_a1 := x_a.c1; have f_a0 := x_a.fr 0; have f_a1 := x_a.fr 1
        go_wp2_with fail
        with_reducible refine (RNormZ_any h j (Nat.le_refl _) (by omega)).mono ?_
        rintro e v2 ⟨A1, n1, c1, rfl, z1, hb1⟩
        replace x_a := x_a.keep hb1
        replace h := h.keep hb1
        replace hb := bthen hb hb1
        clear hb1
        replace q_a0 := x_a.c0; replace q_a1 := x_a.c1; replace f_a0 := x_a.fr 0; replace f_a1 := x_a.fr 1
        rw [HNG.out]
        obtain rfl := HLEN1.out n1 z1.1.len
        have x3 := x_a.put false A1 1 c1; have z3 := z1.put (b' := false) (A' := A1) (n' := 1) (c' := c1) x_a; have hb3 := put_below (g := w.heap.size) hb (by omega) (.bool false) (.slice A1 1 c1)
        have y0 := x3.c0; have y1 := x3.c1
        obtain ⟨bb, oo, rfl, _, hcc⟩ := z3.1.at_ (by omega)
        rw [HDG.out] at hcc
        have hc0 := hcc 0 (by simp)
        simp only [Nat.add_zero, List.getElem_cons_zero, HXE.out] at hc0
        have hcap := z3.1.cap
        clear hcc z3 z1
        go_wp2
        all_goals go_ret2
        all_goals exact SmPost.yes (by rw [HXX.out]; omega) (by rw [HXX.out]) hb3
      · have hlen1 : ∀ n1 : Nat, (dg Wd X.natAbs).length = n1 → n1 = 1 := fun n1 h9 => by rw [HDG.out] at h9; exact h9.symm
        have HLEN1 := Lib.hid hlen1; clear hlen1
        go_enter Try.func11, Try.ntmps11
        go_wp2_with fail
        obtain ⟨hb, x_a⟩ := box1 w b A n c
        generalize w.alloc (.cells #[.bool b, .slice A n c] 24) = v1 at *
        replace h := h.keep hb
        have q_a0 := x_a.c0; have q_a1 := x_a.c1; have f_a0 := x_a.fr 0; have f_a1 := x_a.fr 1
        go_wp2_with fail
        with_reducible refine (RNormZ_any h j (Nat.le_refl _) (by omega)).mono ?_
        rintro e v2 ⟨A1, n1, c1, rfl, z1, hb1⟩
        replace x_a := x_a.keep hb1
        replace h := h.keep hb1
        replace hb := bthen hb hb1
        clear hb1
        replace q_a0 := x_a.c0; replace q_a1 := x_a.c1; replace f_a0 := x_a.fr 0; replace f_a1 := x_a.fr 1
        rw [HNG.out]
        obtain rfl := HLEN1.out n1 z1.1.len
        have x3 := x_a.put false A1 1 c1; have z3 := z1.put (b' := false) (A' := A1) (n' := 1) (c' := c1) x_a; have hb3 := put_below (g := w.heap.size) hb (by omega) (.bool false) (.slice A1 1 c1)
        have y0 := x3.c0; have y1 := x3.c1
        obtain ⟨bb, oo, rfl, _, hcc⟩ := z3.1.at_ (by omega)
        rw [HDG.out] at hcc
        have hc0 := hcc 0 (by simp)
        simp only [Nat.add_zero, List.getElem_cons_zero, HXE.out] at hc0
        have hcap := z3.1.cap
        clear hcc z3 z1
        go_wp2
        all_goals go_ret2
        all_goals exact SmPost.no (by rw [HXX.out]; omega) hb3

end Go.Proofs.Ytcoidcbbdibnaaa
