/-
  zed: Add.
-/
import Derived.Test.YtcoidcbbdibnaaaDoorZsum
namespace Go.Proofs.YtcoidcbbdibnaaaDoor
open Go.RowKit
set_option linter.unusedVariables false

theorem Sm.sub {N M k : Nat} (h : Sm N k) : Sm (N - M) k := h.le (by omega)
theorem not_ne {b b2 : Bool} (h : b ≠ b2) : b2 = !b := by cases b <;> cases b2 <;> simp_all

set_option maxRecDepth 100000 in
set_option maxHeartbeats 4000000 in
theorem ZAdd_any {b b2 : Bool} {A A2 : Option Addr} {n c n2 c2 : Nat} {X Y : Int} {j j2 : Nat} {w : World} (h : Zr w b A n c X j) (h2 : Zr w b2 A2 n2 c2 Y j2) (k : Nat) (hk : j + 1 ≤ k) (hk2 : j2 + 1 ≤ k) (hj : k ≤ 1000000) :
    Calls Tryd.prog 52 #[.agg #[.bool b, .slice A n c], .agg #[.bool b2, .slice A2 n2 c2]] w (OutZ w (X + Y) k) := by
  obtain ⟨l, h, rfl, hn⟩ := h
  obtain ⟨m, h2, rfl, hn2⟩ := h2
  have hs := Sm.of h hn
  have hs2 := Sm.of h2 hn2
  generalize hN : vl Wd l = N at *
  have HN := Lib.hid hN; clear hN
  generalize hM : vl Wd m = M at *
  have HM := Lib.hid hM; clear hM
  by_cases hbb : b = b2
  · subst hbb
    rw [zi_add]
    have hs3 : Sm (N + M) k := ((hs.mono (show j ≤ k - 1 by omega)).add (hs2.mono (show j2 ≤ k - 1 by omega))).mono (by omega)
    clear hs hs2
    go_enter Tryd.func52, Tryd.ntmps52
    go_wp2_with fail
    obtain ⟨hb, x_a, x_b, x_r⟩ := box3 w b A n c b A2 n2 c2 false none 0 0
    generalize ((w.alloc (.cells #[.bool b, .slice A n c] 24)).alloc (.cells #[.bool b, .slice A2 n2 c2] 24)).alloc (.cells #[.bool false, .slice none 0 0] 24) = v1 at *
    replace h := h.go hb
    replace h2 := h2.go hb
    have q_a0 := x_a.c0; have q_a1 := x_a.c1; have f_a0 := x_a.fr 0; have f_a1 := x_a.fr 1
    have q_b0 := x_b.c0; have q_b1 := x_b.c1; have f_b0 := x_b.fr 0; have f_b1 := x_b.fr 1
    have q_r0 := x_r.c0; have q_r1 := x_r.c1; have f_r0 := x_r.fr 0; have f_r1 := x_r.fr 1
    go_wp2_with fail
    go_region_held3 (fun w' => w'.cell? ⟨w.heap.size, 0, none⟩ = some (.bool b) ∧ w'.cell? ⟨w.heap.size, 1, none⟩ = some (.slice A n c) ∧ w'.cell? ⟨w.heap.size + 1, 0, none⟩ = some (.bool b) ∧ w'.cell? ⟨w.heap.size + 1, 1, none⟩ = some (.slice A2 n2 c2))
      (first | exact ⟨x_a.c0, x_a.c1, x_b.c0, x_b.c1⟩ | exact ⟨(x_a.aside (by omega)).c0, (x_a.aside (by omega)).c1, (x_b.aside (by omega)).c0, (x_b.aside (by omega)).c1⟩ | go_keep | (trace_state; fail))
      (first | (go_at_call 79; (with_reducible refine (Add_any _ _ _ _ _ _ _ _ _ h.drw h2.drw (by omega) (by omega)).mono ?_); rintro e v2 ⟨A1, n1, c1, rfl, g1, hb1⟩; replace hb1 := undrew hb1; replace x_a := x_a.keep hb1; replace x_b := x_b.keep hb1; replace x_r := x_r.keep hb1; replace h := h.go hb1; replace h2 := h2.go hb1; replace hb := bthen hb hb1; clear hb1; replace q_a0 := x_a.c0; replace q_a1 := x_a.c1; replace f_a0 := x_a.fr 0; replace f_a1 := x_a.fr 1; replace q_b0 := x_b.c0; replace q_b1 := x_b.c1; replace f_b0 := x_b.fr 0; replace f_b1 := x_b.fr 1; replace q_r0 := x_r.c0; replace q_r1 := x_r.c1; replace f_r0 := x_r.fr 0; replace f_r1 := x_r.fr 1; rw [HN.out, HM.out] at g1) | (go_at_call 66; (with_reducible refine (signed_any b A1 n1 c1 (N + M) _ k g1 hs3).mono ?_); rintro e v3 ⟨rfl, z1, hb1⟩; replace x_a := x_a.keep hb1; replace x_b := x_b.keep hb1; replace x_r := x_r.keep hb1; replace h := h.go hb1; replace h2 := h2.go hb1; replace g1 := g1.go hb1; replace hb := bthen hb hb1; clear hb1; replace q_a0 := x_a.c0; replace q_a1 := x_a.c1; replace f_a0 := x_a.fr 0; replace f_a1 := x_a.fr 1; replace q_b0 := x_b.c0; replace q_b1 := x_b.c1; replace f_b0 := x_b.fr 0; replace f_b1 := x_b.fr 1; replace q_r0 := x_r.c0; replace q_r1 := x_r.c1; replace f_r0 := x_r.fr 0; replace f_r1 := x_r.fr 1))
    go_wp2
    replace x_a := x_a.aside (b' := (ngB (zi b (N + M)))) (A' := A1) (n' := n1) (c' := c1) (g := w.heap.size + 1 + 1) (by omega)
    replace x_b := x_b.aside (b' := (ngB (zi b (N + M)))) (A' := A1) (n' := n1) (c' := c1) (g := w.heap.size + 1 + 1) (by omega)
    replace h := h.sput (b' := (ngB (zi b (N + M)))) (A' := A1) (n' := n1) (c' := c1) x_r
    replace h2 := h2.sput (b' := (ngB (zi b (N + M)))) (A' := A1) (n' := n1) (c' := c1) x_r
    replace g1 := g1.sput (b' := (ngB (zi b (N + M)))) (A' := A1) (n' := n1) (c' := c1) x_r
    replace z1 := z1.put (b' := (ngB (zi b (N + M)))) (A' := A1) (n' := n1) (c' := c1) x_r
    replace hb := put_below (g := w.heap.size + 1 + 1) hb (by omega) (.bool (ngB (zi b (N + M)))) (.slice A1 n1 c1)
    replace x_r := x_r.put (ngB (zi b (N + M))) A1 n1 c1
    clear q_a0 q_a1 f_a0 f_a1 q_b0 q_b1 f_b0 f_b1 q_r0 q_r1 f_r0 f_r1
    generalize (v3.setCell ⟨w.heap.size + 1 + 1, 0, none⟩ (.bool (ngB (zi b (N + M))))).setCell ⟨w.heap.size + 1 + 1, 1, none⟩ (.slice A1 n1 c1) = v4 at *
    have q_a0 := x_a.c0; have q_a1 := x_a.c1; have f_a0 := x_a.fr 0; have f_a1 := x_a.fr 1
    have q_b0 := x_b.c0; have q_b1 := x_b.c1; have f_b0 := x_b.fr 0; have f_b1 := x_b.fr 1
    have q_r0 := x_r.c0; have q_r1 := x_r.c1; have f_r0 := x_r.fr 0; have f_r1 := x_r.fr 1
    refine bodyPost_ret (v := .agg #[.bool (ngB (zi b (N + M))), .slice A1 n1 c1]) (by simp [results, Tryd.results52, go_sem, q_r0, q_r1]) rfl ?_
    exact ⟨_, _, _, rfl, z1, hb⟩
  · obtain rfl := not_ne hbb
    clear hbb
    rcases Nat.lt_or_ge N M with hlt | hge
    · rw [zi_sub' b hlt]
      have hs3 : Sm (M - N) k := (hs2.mono (show j2 ≤ k by omega)).sub
      clear hs hs2
      go_enter Tryd.func52, Tryd.ntmps52
      go_wp2_with fail
      obtain ⟨hb, x_a, x_b, x_r⟩ := box3 w b A n c (!b) A2 n2 c2 false none 0 0
      generalize ((w.alloc (.cells #[.bool b, .slice A n c] 24)).alloc (.cells #[.bool (!b), .slice A2 n2 c2] 24)).alloc (.cells #[.bool false, .slice none 0 0] 24) = v1 at *
      replace h := h.go hb
      replace h2 := h2.go hb
      have q_a0 := x_a.c0; have q_a1 := x_a.c1; have f_a0 := x_a.fr 0; have f_a1 := x_a.fr 1
      have q_b0 := x_b.c0; have q_b1 := x_b.c1; have f_b0 := x_b.fr 0; have f_b1 := x_b.fr 1
      have q_r0 := x_r.c0; have q_r1 := x_r.c1; have f_r0 := x_r.fr 0; have f_r1 := x_r.fr 1
      go_wp2_with fail
      refine (Sub_less _ _ _ _ _ _ _ _ _ h h2 (by omega) (by rw [HN.out, HM.out]; exact hlt)).mono ?_
      rintro e v2 ⟨rfl, hq⟩
      have hb1 := hq.bel; clear hq
      replace x_a := x_a.keep hb1
      replace x_b := x_b.keep hb1
      replace x_r := x_r.keep hb1
      replace h := h.go hb1
      replace h2 := h2.go hb1
      replace hb := bthen hb hb1
      clear hb1
      replace q_a0 := x_a.c0; replace q_a1 := x_a.c1; replace f_a0 := x_a.fr 0; replace f_a1 := x_a.fr 1
      replace q_b0 := x_b.c0; replace q_b1 := x_b.c1; replace f_b0 := x_b.fr 0; replace f_b1 := x_b.fr 1
      replace q_r0 := x_r.c0; replace q_r1 := x_r.c1; replace f_r0 := x_r.fr 0; replace f_r1 := x_r.fr 1
      go_wp2_with fail
      refine (Sub_any _ _ _ _ _ _ _ _ _ h2 h (by omega) (by rw [HN.out, HM.out]; omega)).mono ?_
      rintro e v3 ⟨A1, n1, c1, rfl, g1, hb1⟩
      replace x_a := x_a.keep hb1
      replace x_b := x_b.keep hb1
      replace x_r := x_r.keep hb1
      replace h := h.go hb1
      replace h2 := h2.go hb1
      replace hb := bthen hb hb1
      clear hb1
      replace q_a0 := x_a.c0; replace q_a1 := x_a.c1; replace f_a0 := x_a.fr 0; replace f_a1 := x_a.fr 1
      replace q_b0 := x_b.c0; replace q_b1 := x_b.c1; replace f_b0 := x_b.fr 0; replace f_b1 := x_b.fr 1
      replace q_r0 := x_r.c0; replace q_r1 := x_r.c1; replace f_r0 := x_r.fr 0; replace f_r1 := x_r.fr 1
      rw [HN.out, HM.out] at g1
      go_wp2_with fail
      refine (signed_any (!b) A1 n1 c1 (M - N) _ k g1 hs3).mono ?_
      rintro e v4 ⟨rfl, z1, hb1⟩
      replace x_a := x_a.keep hb1
      replace x_b := x_b.keep hb1
      replace x_r := x_r.keep hb1
      replace h := h.go hb1
      replace h2 := h2.go hb1
      replace g1 := g1.go hb1
      replace hb := bthen hb hb1
      clear hb1
      replace q_a0 := x_a.c0; replace q_a1 := x_a.c1; replace f_a0 := x_a.fr 0; replace f_a1 := x_a.fr 1
      replace q_b0 := x_b.c0; replace q_b1 := x_b.c1; replace f_b0 := x_b.fr 0; replace f_b1 := x_b.fr 1
      replace q_r0 := x_r.c0; replace q_r1 := x_r.c1; replace f_r0 := x_r.fr 0; replace f_r1 := x_r.fr 1
      go_wp2
      replace x_a := x_a.aside (b' := (ngB (zi (!b) (M - N)))) (A' := A1) (n' := n1) (c' := c1) (g := w.heap.size + 1 + 1) (by omega)
      replace x_b := x_b.aside (b' := (ngB (zi (!b) (M - N)))) (A' := A1) (n' := n1) (c' := c1) (g := w.heap.size + 1 + 1) (by omega)
      replace h := h.sput (b' := (ngB (zi (!b) (M - N)))) (A' := A1) (n' := n1) (c' := c1) x_r
      replace h2 := h2.sput (b' := (ngB (zi (!b) (M - N)))) (A' := A1) (n' := n1) (c' := c1) x_r
      replace g1 := g1.sput (b' := (ngB (zi (!b) (M - N)))) (A' := A1) (n' := n1) (c' := c1) x_r
      replace z1 := z1.put (b' := (ngB (zi (!b) (M - N)))) (A' := A1) (n' := n1) (c' := c1) x_r
      replace hb := put_below (g := w.heap.size + 1 + 1) hb (by omega) (.bool (ngB (zi (!b) (M - N)))) (.slice A1 n1 c1)
      replace x_r := x_r.put (ngB (zi (!b) (M - N))) A1 n1 c1
      clear q_a0 q_a1 f_a0 f_a1 q_b0 q_b1 f_b0 f_b1 q_r0 q_r1 f_r0 f_r1
      generalize (v4.setCell ⟨w.heap.size + 1 + 1, 0, none⟩ (.bool (ngB (zi (!b) (M - N))))).setCell ⟨w.heap.size + 1 + 1, 1, none⟩ (.slice A1 n1 c1) = v5 at *
      have q_a0 := x_a.c0; have q_a1 := x_a.c1; have f_a0 := x_a.fr 0; have f_a1 := x_a.fr 1
      have q_b0 := x_b.c0; have q_b1 := x_b.c1; have f_b0 := x_b.fr 0; have f_b1 := x_b.fr 1
      have q_r0 := x_r.c0; have q_r1 := x_r.c1; have f_r0 := x_r.fr 0; have f_r1 := x_r.fr 1
      refine bodyPost_ret (v := .agg #[.bool (ngB (zi (!b) (M - N))), .slice A1 n1 c1]) (by simp [results, Tryd.results52, go_sem, q_r0, q_r1]) rfl ?_
      exact ⟨_, _, _, rfl, z1, hb⟩
    · rw [zi_sub b hge]
      have hs3 : Sm (N - M) k := (hs.mono (show j ≤ k by omega)).sub
      clear hs hs2
      go_enter Tryd.func52, Tryd.ntmps52
      go_wp2_with fail
      obtain ⟨hb, x_a, x_b, x_r⟩ := box3 w b A n c (!b) A2 n2 c2 false none 0 0
      generalize ((w.alloc (.cells #[.bool b, .slice A n c] 24)).alloc (.cells #[.bool (!b), .slice A2 n2 c2] 24)).alloc (.cells #[.bool false, .slice none 0 0] 24) = v1 at *
      replace h := h.go hb
      replace h2 := h2.go hb
      have q_a0 := x_a.c0; have q_a1 := x_a.c1; have f_a0 := x_a.fr 0; have f_a1 := x_a.fr 1
      have q_b0 := x_b.c0; have q_b1 := x_b.c1; have f_b0 := x_b.fr 0; have f_b1 := x_b.fr 1
      have q_r0 := x_r.c0; have q_r1 := x_r.c1; have f_r0 := x_r.fr 0; have f_r1 := x_r.fr 1
      go_wp2_with fail
      refine (Sub_any _ _ _ _ _ _ _ _ _ h h2 (by omega) (by rw [HN.out, HM.out]; exact hge)).mono ?_
      rintro e v2 ⟨A1, n1, c1, rfl, g1, hb1⟩
      replace x_a := x_a.keep hb1
      replace x_b := x_b.keep hb1
      replace x_r := x_r.keep hb1
      replace h := h.go hb1
      replace h2 := h2.go hb1
      replace hb := bthen hb hb1
      clear hb1
      replace q_a0 := x_a.c0; replace q_a1 := x_a.c1; replace f_a0 := x_a.fr 0; replace f_a1 := x_a.fr 1
      replace q_b0 := x_b.c0; replace q_b1 := x_b.c1; replace f_b0 := x_b.fr 0; replace f_b1 := x_b.fr 1
      replace q_r0 := x_r.c0; replace q_r1 := x_r.c1; replace f_r0 := x_r.fr 0; replace f_r1 := x_r.fr 1
      rw [HN.out, HM.out] at g1
      go_wp2_with fail
      refine (signed_any b A1 n1 c1 (N - M) _ k g1 hs3).mono ?_
      rintro e v3 ⟨rfl, z1, hb1⟩
      replace x_a := x_a.keep hb1
      replace x_b := x_b.keep hb1
      replace x_r := x_r.keep hb1
      replace h := h.go hb1
      replace h2 := h2.go hb1
      replace g1 := g1.go hb1
      replace hb := bthen hb hb1
      clear hb1
      replace q_a0 := x_a.c0; replace q_a1 := x_a.c1; replace f_a0 := x_a.fr 0; replace f_a1 := x_a.fr 1
      replace q_b0 := x_b.c0; replace q_b1 := x_b.c1; replace f_b0 := x_b.fr 0; replace f_b1 := x_b.fr 1
      replace q_r0 := x_r.c0; replace q_r1 := x_r.c1; replace f_r0 := x_r.fr 0; replace f_r1 := x_r.fr 1
      go_wp2
      replace x_a := x_a.aside (b' := (ngB (zi b (N - M)))) (A' := A1) (n' := n1) (c' := c1) (g := w.heap.size + 1 + 1) (by omega)
      replace x_b := x_b.aside (b' := (ngB (zi b (N - M)))) (A' := A1) (n' := n1) (c' := c1) (g := w.heap.size + 1 + 1) (by omega)
      replace h := h.sput (b' := (ngB (zi b (N - M)))) (A' := A1) (n' := n1) (c' := c1) x_r
      replace h2 := h2.sput (b' := (ngB (zi b (N - M)))) (A' := A1) (n' := n1) (c' := c1) x_r
      replace g1 := g1.sput (b' := (ngB (zi b (N - M)))) (A' := A1) (n' := n1) (c' := c1) x_r
      replace z1 := z1.put (b' := (ngB (zi b (N - M)))) (A' := A1) (n' := n1) (c' := c1) x_r
      replace hb := put_below (g := w.heap.size + 1 + 1) hb (by omega) (.bool (ngB (zi b (N - M)))) (.slice A1 n1 c1)
      replace x_r := x_r.put (ngB (zi b (N - M))) A1 n1 c1
      clear q_a0 q_a1 f_a0 f_a1 q_b0 q_b1 f_b0 f_b1 q_r0 q_r1 f_r0 f_r1
      generalize (v3.setCell ⟨w.heap.size + 1 + 1, 0, none⟩ (.bool (ngB (zi b (N - M))))).setCell ⟨w.heap.size + 1 + 1, 1, none⟩ (.slice A1 n1 c1) = v4 at *
      have q_a0 := x_a.c0; have q_a1 := x_a.c1; have f_a0 := x_a.fr 0; have f_a1 := x_a.fr 1
      have q_b0 := x_b.c0; have q_b1 := x_b.c1; have f_b0 := x_b.fr 0; have f_b1 := x_b.fr 1
      have q_r0 := x_r.c0; have q_r1 := x_r.c1; have f_r0 := x_r.fr 0; have f_r1 := x_r.fr 1
      refine bodyPost_ret (v := .agg #[.bool (ngB (zi b (N - M))), .slice A1 n1 c1]) (by simp [results, Tryd.results52, go_sem, q_r0, q_r1]) rfl ?_
      exact ⟨_, _, _, rfl, z1, hb⟩

end Go.Proofs.YtcoidcbbdibnaaaDoor
