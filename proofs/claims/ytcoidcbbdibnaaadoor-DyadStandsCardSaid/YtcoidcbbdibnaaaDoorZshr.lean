/-
  zed: Shr, Of.
-/
import Derived.Test.YtcoidcbbdibnaaaDoorZdiv
namespace Go.Proofs.YtcoidcbbdibnaaaDoor
open Go.RowKit
set_option linter.unusedVariables false

theorem shr_nn {X : Int} {N s : Nat} (h : X = N) : X / 2 ^ s = zi false (N / 2 ^ s) := by
  subst h; rw [zi_false, Int.natCast_ediv, Int.natCast_pow]; rfl
theorem shr_neg {N s : Nat} (h : 0 < N) : (-(N : Int)) / 2 ^ s = zi true ((N - 1) / 2 ^ s + 1) := by
  rw [zi_true]
  have hp : 0 < 2 ^ s := Nat.two_pow_pos s
  have e : (2 : Int) ^ s = ((2 ^ s : Nat) : Int) := by rw [Int.natCast_pow]; rfl
  rw [e]
  generalize 2 ^ s = d at *
  have h1 := Nat.mod_add_div (N - 1) d
  have h2 := Nat.mod_lt (N - 1) hp
  refine (ed_unique (r := ((d - 1 - (N - 1) % d : Nat) : Int)) (by omega) ?_ (by omega) (by omega)).1
  generalize (N - 1) % d = r at *
  generalize (N - 1) / d = q at *
  rw [Int.mul_neg, show ((q + 1 : Nat) : Int) = (q : Int) + 1 by omega, Int.mul_add]
  have h3 : ((d * q : Nat) : Int) = (d : Int) * q := Int.natCast_mul _ _
  omega

set_option maxRecDepth 100000 in
set_option maxHeartbeats 4000000 in
theorem ZShr_any {b : Bool} {A : Option Addr} {n c : Nat} {X : Int} {j : Nat} {w : World} (h : Zr w b A n c X j) (i : Int) (k : Nat) (hk : j + 1 ≤ k) (hj : k ≤ 1000000) :
    Calls Tryd.prog 76 #[.agg #[.bool b, .slice A n c], .int .i64 i] w (OutZ w (X / 2 ^ sc i) k) := by
  by_cases hX : X < 0
  · have hsg : ¬ (0 ≤ sgnI X) := by have := sgnI_lt0.2 hX; omega
    have hsb := sgnI_is X
    obtain ⟨l, h9, hX9, hn⟩ := id h
    have hXN : X = -((vl Wd l : Nat) : Int) := by rw [← hX9] at hX ⊢; exact zi_neg hX
    have hN0 : 0 < vl Wd l := by omega
    have hs : Sm ((vl Wd l - 1) / 2 ^ sc i + 1) k := (((Sm.of h9 hn).mono (show j ≤ k - 1 by omega)).sub.div _).le1 (by omega)
    have hs2 : Sm ((vl Wd l - 1) / 2 ^ sc i) k := (((Sm.of h9 hn).mono (show j ≤ k by omega)).sub.div _)
    have hs0 : Sm (vl Wd l - 1) k := ((Sm.of h9 hn).mono (show j ≤ k by omega)).sub
    have hXe : X / 2 ^ sc i = zi true ((vl Wd l - 1) / 2 ^ sc i + 1) := by rw [hXN]; exact shr_neg hN0
    rw [hXe]
    clear hXe
    have hle : 1 ≤ vl Wd l := hN0
    clear hX hXN hX9 hN0
    generalize hN : vl Wd l = N at *
    have HN := Lib.hid hN; clear hN
    generalize hQ9 : (N - 1) / 2 ^ sc i = Q at *
    have HQ := Lib.hid hQ9; clear hQ9
    go_enter Tryd.func76, Tryd.ntmps76
    go_wp2_with fail
    obtain ⟨hb, x_a, x_r⟩ := box2 w b A n c false none 0 0
    generalize (w.alloc (.cells #[.bool b, .slice A n c] 24)).alloc (.cells #[.bool false, .slice none 0 0] 24) = v1 at *
    replace h := h.keep hb
    replace h9 := h9.go hb
    have q_a0 := x_a.c0; have q_a1 := x_a.c1; have f_a0 := x_a.fr 0; have f_a1 := x_a.fr 1
    have q_r0 := x_r.c0; have q_r1 := x_r.c1; have f_r0 := x_r.fr 0; have f_r1 := x_r.fr 1
    go_wp2_with fail
    with_reducible refine (ZSign_any h (by omega)).mono ?_
    rintro e v2 ⟨rfl, hb1⟩
    replace x_a := x_a.keep hb1
    replace x_r := x_r.keep hb1
    replace h := h.keep hb1
    replace h9 := h9.go hb1
    replace hb := bthen hb hb1
    clear hb1
    replace q_a0 := x_a.c0; replace q_a1 := x_a.c1; replace f_a0 := x_a.fr 0; replace f_a1 := x_a.fr 1
    replace q_r0 := x_r.c0; replace q_r1 := x_r.c1; replace f_r0 := x_r.fr 0; replace f_r1 := x_r.fr 1
    generalize sgnI X = s at *
    go_wp2_with fail
    have hb1 := below_alloc v2 (.cells #[.int .u64 1] 31)
    replace x_a := x_a.keep hb1
    replace x_r := x_r.keep hb1
    replace h := h.keep hb1
    replace h9 := h9.go hb1
    replace hb := bthen hb hb1
    clear hb1
    replace q_a0 := x_a.c0; replace q_a1 := x_a.c1; replace f_a0 := x_a.fr 0; replace f_a1 := x_a.fr 1
    replace q_r0 := x_r.c0; replace q_r1 := x_r.c1; replace f_r0 := x_r.fr 0; replace f_r1 := x_r.fr 1
    have u1 := lay1 v2 1 (lm_small (by omega) (by omega))
    clear q_a0 q_a1 f_a0 f_a1 q_r0 q_r1 f_r0 f_r1
    generalize v2.alloc (.cells #[.int .u64 1] 31) = v3 at *
    have q_a0 := x_a.c0; have q_a1 := x_a.c1; have f_a0 := x_a.fr 0; have f_a1 := x_a.fr 1
    have q_r0 := x_r.c0; have q_r1 := x_r.c1; have f_r0 := x_r.fr 0; have f_r1 := x_r.fr 1
    skip
    with_reducible refine (Sub_any _ _ _ _ _ _ _ _ _ h9 u1 (by omega) (by rw [HN.out, vl_one, show (1 : Int).toNat = 1 from rfl]; exact hle)).mono ?_
    rintro e v4 ⟨A1, n1, c1, rfl, g1, hb1⟩
    replace x_a := x_a.keep hb1
    replace x_r := x_r.keep hb1
    replace h := h.keep hb1
    replace h9 := h9.go hb1
    replace u1 := u1.go hb1
    replace hb := bthen hb hb1
    clear hb1
    replace q_a0 := x_a.c0; replace q_a1 := x_a.c1; replace f_a0 := x_a.fr 0; replace f_a1 := x_a.fr 1
    replace q_r0 := x_r.c0; replace q_r1 := x_r.c1; replace f_r0 := x_r.fr 0; replace f_r1 := x_r.fr 1
    rw [HN.out, vl_one, show (1 : Int).toNat = 1 from rfl] at g1
    have zn1 := g1.small hs0
    go_wp2_with fail
    with_reducible refine (Shr_any _ _ _ _ i _ g1 (by omega)).mono ?_
    rintro e v5 ⟨A3, n3, c3, rfl, g3, hb1⟩
    replace x_a := x_a.keep hb1
    replace x_r := x_r.keep hb1
    replace h := h.keep hb1
    replace h9 := h9.go hb1
    replace u1 := u1.go hb1
    replace g1 := g1.go hb1
    replace hb := bthen hb hb1
    clear hb1
    replace q_a0 := x_a.c0; replace q_a1 := x_a.c1; replace f_a0 := x_a.fr 0; replace f_a1 := x_a.fr 1
    replace q_r0 := x_r.c0; replace q_r1 := x_r.c1; replace f_r0 := x_r.fr 0; replace f_r1 := x_r.fr 1
    rw [vl_dg Wd2, HQ.out] at g3
    have zn3 := g3.small hs2
    go_wp2_with fail
    with_reducible refine (inc_any g3 (by omega)).mono ?_
    rintro e v6 ⟨A4, n4, c4, rfl, g4, hb1⟩
    replace x_a := x_a.keep hb1
    replace x_r := x_r.keep hb1
    replace h := h.keep hb1
    replace h9 := h9.go hb1
    replace u1 := u1.go hb1
    replace g1 := g1.go hb1
    replace g3 := g3.go hb1
    replace hb := bthen hb hb1
    clear hb1
    replace q_a0 := x_a.c0; replace q_a1 := x_a.c1; replace f_a0 := x_a.fr 0; replace f_a1 := x_a.fr 1
    replace q_r0 := x_r.c0; replace q_r1 := x_r.c1; replace f_r0 := x_r.fr 0; replace f_r1 := x_r.fr 1
    rw [vl_dg Wd2] at g4
    go_wp2_with fail
    with_reducible refine (signed_any true A4 n4 c4 (Q + 1) _ k g4 hs).mono ?_
    rintro e v7 ⟨rfl, z1, hb1⟩
    replace x_a := x_a.keep hb1
    replace x_r := x_r.keep hb1
    replace h := h.keep hb1
    replace h9 := h9.go hb1
    replace u1 := u1.go hb1
    replace g1 := g1.go hb1
    replace g3 := g3.go hb1
    replace g4 := g4.go hb1
    replace hb := bthen hb hb1
    clear hb1
    replace q_a0 := x_a.c0; replace q_a1 := x_a.c1; replace f_a0 := x_a.fr 0; replace f_a1 := x_a.fr 1
    replace q_r0 := x_r.c0; replace q_r1 := x_r.c1; replace f_r0 := x_r.fr 0; replace f_r1 := x_r.fr 1
    go_wp2
    replace x_a := x_a.aside (b' := (ngB (zi true (Q + 1)))) (A' := A4) (n' := n4) (c' := c4) (g := w.heap.size + 1) (by omega)
    replace h := h.put (b' := (ngB (zi true (Q + 1)))) (A' := A4) (n' := n4) (c' := c4) x_r
    replace h9 := h9.sput (b' := (ngB (zi true (Q + 1)))) (A' := A4) (n' := n4) (c' := c4) x_r
    replace u1 := u1.sput (b' := (ngB (zi true (Q + 1)))) (A' := A4) (n' := n4) (c' := c4) x_r
    replace g1 := g1.sput (b' := (ngB (zi true (Q + 1)))) (A' := A4) (n' := n4) (c' := c4) x_r
    replace g3 := g3.sput (b' := (ngB (zi true (Q + 1)))) (A' := A4) (n' := n4) (c' := c4) x_r
    replace g4 := g4.sput (b' := (ngB (zi true (Q + 1)))) (A' := A4) (n' := n4) (c' := c4) x_r
    replace z1 := z1.put (b' := (ngB (zi true (Q + 1)))) (A' := A4) (n' := n4) (c' := c4) x_r
    replace hb := put_below (g := w.heap.size + 1) hb (by omega) (.bool (ngB (zi true (Q + 1)))) (.slice A4 n4 c4)
    replace x_r := x_r.put (ngB (zi true (Q + 1))) A4 n4 c4
    clear q_a0 q_a1 f_a0 f_a1 q_r0 q_r1 f_r0 f_r1
    generalize (v7.setCell ⟨w.heap.size + 1, 0, none⟩ (.bool (ngB (zi true (Q + 1))))).setCell ⟨w.heap.size + 1, 1, none⟩ (.slice A4 n4 c4) = v8 at *
    have q_a0 := x_a.c0; have q_a1 := x_a.c1; have f_a0 := x_a.fr 0; have f_a1 := x_a.fr 1
    have q_r0 := x_r.c0; have q_r1 := x_r.c1; have f_r0 := x_r.fr 0; have f_r1 := x_r.fr 1
    refine bodyPost_ret (v := .agg #[.bool (ngB (zi true (Q + 1))), .slice A4 n4 c4]) (by simp [results, Tryd.results76, go_sem, q_r0, q_r1]) rfl ?_
    exact ⟨_, _, _, rfl, z1, hb⟩
  · have hsg : 0 ≤ sgnI X := by have := mt sgnI_lt0.1 hX; omega
    have hsb := sgnI_is X
    obtain ⟨l, h9, hX9, hn⟩ := id h
    have hXN : X = ((vl Wd l : Nat) : Int) := by rw [← hX9] at hX ⊢; exact zi_nn (by omega)
    have hs : Sm (vl Wd l / 2 ^ sc i) k := (((Sm.of h9 hn).mono (show j ≤ k by omega)).div _)
    rw [shr_nn hXN]
    clear hX hXN hX9
    generalize hN : vl Wd l = N at *
    have HN := Lib.hid hN; clear hN
    generalize hQ9 : N / 2 ^ sc i = Q at *
    have HQ := Lib.hid hQ9; clear hQ9
    go_enter Tryd.func76, Tryd.ntmps76
    go_wp2_with fail
    obtain ⟨hb, x_a, x_r⟩ := box2 w b A n c false none 0 0
    generalize (w.alloc (.cells #[.bool b, .slice A n c] 24)).alloc (.cells #[.bool false, .slice none 0 0] 24) = v1 at *
    replace h := h.keep hb
    replace h9 := h9.go hb
    have q_a0 := x_a.c0; have q_a1 := x_a.c1; have f_a0 := x_a.fr 0; have f_a1 := x_a.fr 1
    have q_r0 := x_r.c0; have q_r1 := x_r.c1; have f_r0 := x_r.fr 0; have f_r1 := x_r.fr 1
    go_wp2_with fail
    with_reducible refine (ZSign_any h (by omega)).mono ?_
    rintro e v2 ⟨rfl, hb1⟩
    replace x_a := x_a.keep hb1
    replace x_r := x_r.keep hb1
    replace h := h.keep hb1
    replace h9 := h9.go hb1
    replace hb := bthen hb hb1
    clear hb1
    replace q_a0 := x_a.c0; replace q_a1 := x_a.c1; replace f_a0 := x_a.fr 0; replace f_a1 := x_a.fr 1
    replace q_r0 := x_r.c0; replace q_r1 := x_r.c1; replace f_r0 := x_r.fr 0; replace f_r1 := x_r.fr 1
    generalize sgnI X = s at *
    go_wp2_with fail
    with_reducible refine (Shr_any _ _ _ _ i _ h9 (by omega)).mono ?_
    rintro e v3 ⟨A3, n3, c3, rfl, g3, hb1⟩
    replace x_a := x_a.keep hb1
    replace x_r := x_r.keep hb1
    replace h := h.keep hb1
    replace h9 := h9.go hb1
    replace hb := bthen hb hb1
    clear hb1
    replace q_a0 := x_a.c0; replace q_a1 := x_a.c1; replace f_a0 := x_a.fr 0; replace f_a1 := x_a.fr 1
    replace q_r0 := x_r.c0; replace q_r1 := x_r.c1; replace f_r0 := x_r.fr 0; replace f_r1 := x_r.fr 1
    rw [HN.out, HQ.out] at g3
    go_wp2_with fail
    with_reducible refine (signed_any false A3 n3 c3 Q _ k g3 hs).mono ?_
    rintro e v4 ⟨rfl, z1, hb1⟩
    replace x_a := x_a.keep hb1
    replace x_r := x_r.keep hb1
    replace h := h.keep hb1
    replace h9 := h9.go hb1
    replace g3 := g3.go hb1
    replace hb := bthen hb hb1
    clear hb1
    replace q_a0 := x_a.c0; replace q_a1 := x_a.c1; replace f_a0 := x_a.fr 0; replace f_a1 := x_a.fr 1
    replace q_r0 := x_r.c0; replace q_r1 := x_r.c1; replace f_r0 := x_r.fr 0; replace f_r1 := x_r.fr 1
    go_wp2
    replace x_a := x_a.aside (b' := (ngB (zi false Q))) (A' := A3) (n' := n3) (c' := c3) (g := w.heap.size + 1) (by omega)
    replace h := h.put (b' := (ngB (zi false Q))) (A' := A3) (n' := n3) (c' := c3) x_r
    replace h9 := h9.sput (b' := (ngB (zi false Q))) (A' := A3) (n' := n3) (c' := c3) x_r
    replace g3 := g3.sput (b' := (ngB (zi false Q))) (A' := A3) (n' := n3) (c' := c3) x_r
    replace z1 := z1.put (b' := (ngB (zi false Q))) (A' := A3) (n' := n3) (c' := c3) x_r
    replace hb := put_below (g := w.heap.size + 1) hb (by omega) (.bool (ngB (zi false Q))) (.slice A3 n3 c3)
    replace x_r := x_r.put (ngB (zi false Q)) A3 n3 c3
    clear q_a0 q_a1 f_a0 f_a1 q_r0 q_r1 f_r0 f_r1
    generalize (v4.setCell ⟨w.heap.size + 1, 0, none⟩ (.bool (ngB (zi false Q)))).setCell ⟨w.heap.size + 1, 1, none⟩ (.slice A3 n3 c3) = v5 at *
    have q_a0 := x_a.c0; have q_a1 := x_a.c1; have f_a0 := x_a.fr 0; have f_a1 := x_a.fr 1
    have q_r0 := x_r.c0; have q_r1 := x_r.c1; have f_r0 := x_r.fr 0; have f_r1 := x_r.fr 1
    refine bodyPost_ret (v := .agg #[.bool (ngB (zi false Q)), .slice A3 n3 c3]) (by simp [results, Tryd.results76, go_sem, q_r0, q_r1]) rfl ?_
    exact ⟨_, _, _, rfl, z1, hb⟩

theorem lay1s (w : World) (x : Int) (hx : Lm x) {g : Nat} (hg : w.heap.size = g) : Rd (w.alloc (.cells #[.int .u64 x] 31)) (w.alloc (.cells #[.int .u64 x] 31)).heap.size (some ⟨g, 0, none⟩) 1 1 [x] := hg ▸ lay1 w x hx
theorem Si.of_i64 {n : Int} (h0 : -9223372036854775808 ≤ n) (h1 : n ≤ 9223372036854775807) : Si n 1 := by
  unfold Si Sm; rw [Nat.pow_one, Wd_eq]; omega
theorem u64_neg {m : Int} (h0 : 0 < m) (h1 : m ≤ 9223372036854775808) : IntKind.u64.wrap (-m) = 18446744073709551616 - m ∧ IntKind.u64.wrap (-(18446744073709551616 - m)) = m := by
  constructor <;> (rw [wrap_u64]; omega)
set_option maxRecDepth 100000 in
set_option maxHeartbeats 2000000 in
theorem ZOf_any (n : Int) {w : World} (h0 : -9223372036854775808 ≤ n) (h1 : n ≤ 9223372036854775807) :
    Calls Tryd.prog 42 #[.int .i64 n] w (OutZ w n 1) := by
  have hsi := Si.of_i64 h0 h1
  rcases Int.lt_or_le n 0 with hlt | hge
  · obtain ⟨m, rfl⟩ : ∃ m : Int, n = -m := ⟨-n, by omega⟩
    obtain ⟨e1, e2⟩ := u64_neg (m := m) (by omega) (by omega)
    have hlt0 : decide (-m < 0) = true := by simp; omega
    have hm : Lm m := lm_small (by omega) (by omega)
    have hv : -m = zi true m.toNat := by rw [zi_true]; omega
    have hs : Sm m.toNat 1 := by unfold Sm; rw [Nat.pow_one, Wd_eq]; omega
    rw [show OutZ w (-m) 1 = OutZ w (zi true m.toNat) 1 by rw [← hv]]
    clear hv hsi
    go_enter Tryd.func42, Tryd.ntmps42
    go_wp2_with fail
    obtain ⟨hb, x_r⟩ := box1 w false none 0 0
    have hsz : (w.alloc (.cells #[.bool false, .slice none 0 0] 24)).heap.size = w.heap.size + 1 := by simp
    generalize w.alloc (.cells #[.bool false, .slice none 0 0] 24) = v1 at *
    have HSZ := Lib.hid hsz; clear hsz
    have q_r0 := x_r.c0; have q_r1 := x_r.c1; have f_r0 := x_r.fr 0; have f_r1 := x_r.fr 1
    have hb1 := below_alloc v1 (.cells #[.int .u64 m] 31)
    replace x_r := x_r.keep hb1
    replace hb := bthen hb hb1
    clear hb1
    replace q_r0 := x_r.c0; replace q_r1 := x_r.c1; replace f_r0 := x_r.fr 0; replace f_r1 := x_r.fr 1
    have u1 := lay1s v1 m hm HSZ.out
    clear q_r0 q_r1 f_r0 f_r1
    generalize v1.alloc (.cells #[.int .u64 m] 31) = v2 at *
    have q_r0 := x_r.c0; have q_r1 := x_r.c1; have f_r0 := x_r.fr 0; have f_r1 := x_r.fr 1
    skip
    with_reducible refine (Norm_any _ _ _ _ _ _ u1 (Nat.le_refl _)).mono ?_
    rintro e v3 ⟨A1, n1, c1, rfl, g1, hb1⟩
    replace x_r := x_r.keep hb1
    replace u1 := u1.go hb1
    replace hb := bthen hb hb1
    clear hb1
    replace q_r0 := x_r.c0; replace q_r1 := x_r.c1; replace f_r0 := x_r.fr 0; replace f_r1 := x_r.fr 1
    rw [vl_one] at g1
    go_wp2_with fail
    with_reducible refine (signed_any true A1 n1 c1 m.toNat _ 1 g1 hs).mono ?_
    rintro e v4 ⟨rfl, z1, hb1⟩
    replace x_r := x_r.keep hb1
    replace u1 := u1.go hb1
    replace g1 := g1.go hb1
    replace hb := bthen hb hb1
    clear hb1
    replace q_r0 := x_r.c0; replace q_r1 := x_r.c1; replace f_r0 := x_r.fr 0; replace f_r1 := x_r.fr 1
    go_wp2
    replace u1 := u1.sput (b' := (ngB (zi true m.toNat))) (A' := A1) (n' := n1) (c' := c1) x_r
    replace g1 := g1.sput (b' := (ngB (zi true m.toNat))) (A' := A1) (n' := n1) (c' := c1) x_r
    replace z1 := z1.put (b' := (ngB (zi true m.toNat))) (A' := A1) (n' := n1) (c' := c1) x_r
    replace hb := put_below (g := w.heap.size) hb (by omega) (.bool (ngB (zi true m.toNat))) (.slice A1 n1 c1)
    replace x_r := x_r.put (ngB (zi true m.toNat)) A1 n1 c1
    clear q_r0 q_r1 f_r0 f_r1
    generalize (v4.setCell ⟨w.heap.size, 0, none⟩ (.bool (ngB (zi true m.toNat)))).setCell ⟨w.heap.size, 1, none⟩ (.slice A1 n1 c1) = v5 at *
    have q_r0 := x_r.c0; have q_r1 := x_r.c1; have f_r0 := x_r.fr 0; have f_r1 := x_r.fr 1
    refine bodyPost_ret (v := .agg #[.bool (ngB (zi true m.toNat)), .slice A1 n1 c1]) (by simp [results, Tryd.results42, go_sem, q_r0, q_r1]) rfl ?_
    exact ⟨_, _, _, rfl, z1, hb⟩
  · have e1 : IntKind.u64.wrap n = n := by rw [wrap_u64]; omega
    have hlt0 : decide (n < 0) = false := by simp; omega
    have hm : Lm n := lm_small (by omega) (by omega)
    have hv : n = zi false n.toNat := by rw [zi_false]; omega
    have hs : Sm n.toNat 1 := by unfold Sm; rw [Nat.pow_one, Wd_eq]; omega
    rw [show OutZ w n 1 = OutZ w (zi false n.toNat) 1 by rw [← hv]]
    clear hv hsi
    go_enter Tryd.func42, Tryd.ntmps42
    go_wp2_with fail
    obtain ⟨hb, x_r⟩ := box1 w false none 0 0
    have hsz : (w.alloc (.cells #[.bool false, .slice none 0 0] 24)).heap.size = w.heap.size + 1 := by simp
    generalize w.alloc (.cells #[.bool false, .slice none 0 0] 24) = v1 at *
    have HSZ := Lib.hid hsz; clear hsz
    have q_r0 := x_r.c0; have q_r1 := x_r.c1; have f_r0 := x_r.fr 0; have f_r1 := x_r.fr 1
    have hb1 := below_alloc v1 (.cells #[.int .u64 n] 31)
    replace x_r := x_r.keep hb1
    replace hb := bthen hb hb1
    clear hb1
    replace q_r0 := x_r.c0; replace q_r1 := x_r.c1; replace f_r0 := x_r.fr 0; replace f_r1 := x_r.fr 1
    have u1 := lay1s v1 n hm HSZ.out
    clear q_r0 q_r1 f_r0 f_r1
    generalize v1.alloc (.cells #[.int .u64 n] 31) = v2 at *
    have q_r0 := x_r.c0; have q_r1 := x_r.c1; have f_r0 := x_r.fr 0; have f_r1 := x_r.fr 1
    skip
    with_reducible refine (Norm_any _ _ _ _ _ _ u1 (Nat.le_refl _)).mono ?_
    rintro e v3 ⟨A1, n1, c1, rfl, g1, hb1⟩
    replace x_r := x_r.keep hb1
    replace u1 := u1.go hb1
    replace hb := bthen hb hb1
    clear hb1
    replace q_r0 := x_r.c0; replace q_r1 := x_r.c1; replace f_r0 := x_r.fr 0; replace f_r1 := x_r.fr 1
    rw [vl_one] at g1
    go_wp2_with fail
    with_reducible refine (signed_any false A1 n1 c1 n.toNat _ 1 g1 hs).mono ?_
    rintro e v4 ⟨rfl, z1, hb1⟩
    replace x_r := x_r.keep hb1
    replace u1 := u1.go hb1
    replace g1 := g1.go hb1
    replace hb := bthen hb hb1
    clear hb1
    replace q_r0 := x_r.c0; replace q_r1 := x_r.c1; replace f_r0 := x_r.fr 0; replace f_r1 := x_r.fr 1
    go_wp2
    replace u1 := u1.sput (b' := (ngB (zi false n.toNat))) (A' := A1) (n' := n1) (c' := c1) x_r
    replace g1 := g1.sput (b' := (ngB (zi false n.toNat))) (A' := A1) (n' := n1) (c' := c1) x_r
    replace z1 := z1.put (b' := (ngB (zi false n.toNat))) (A' := A1) (n' := n1) (c' := c1) x_r
    replace hb := put_below (g := w.heap.size) hb (by omega) (.bool (ngB (zi false n.toNat))) (.slice A1 n1 c1)
    replace x_r := x_r.put (ngB (zi false n.toNat)) A1 n1 c1
    clear q_r0 q_r1 f_r0 f_r1
    generalize (v4.setCell ⟨w.heap.size, 0, none⟩ (.bool (ngB (zi false n.toNat)))).setCell ⟨w.heap.size, 1, none⟩ (.slice A1 n1 c1) = v5 at *
    have q_r0 := x_r.c0; have q_r1 := x_r.c1; have f_r0 := x_r.fr 0; have f_r1 := x_r.fr 1
    refine bodyPost_ret (v := .agg #[.bool (ngB (zi false n.toNat)), .slice A1 n1 c1]) (by simp [results, Tryd.results42, go_sem, q_r0, q_r1]) rfl ?_
    exact ⟨_, _, _, rfl, z1, hb⟩

end Go.Proofs.YtcoidcbbdibnaaaDoor
