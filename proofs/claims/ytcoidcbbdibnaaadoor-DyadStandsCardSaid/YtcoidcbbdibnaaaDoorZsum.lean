/-
  zed: sums and signs.
-/
import Derived.Test.YtcoidcbbdibnaaaDoorZint
namespace Go.Proofs.YtcoidcbbdibnaaaDoor
open Go.RowKit
set_option linter.unusedVariables false

theorem undrew {a b : World} (h : Below a.drew.heap.size a.drew b) : Below a.heap.size a b := ⟨h.os, h.tape, h.output, h.size, h.block⟩
theorem Zr.drw {w : World} {b : Bool} {A : Option Addr} {n c k : Nat} {X : Int} (h : Zr w b A n c X k) : Zr w.drew b A n c X k := h
theorem Zn.drw {w : World} {A : Option Addr} {n c k : Nat} {X : Int} (h : Zn w A n c X k) : Zn w.drew A n c X k := h
theorem Rd.drw {w : World} {A : Option Addr} {n c : Nat} {l : List Int} (h : Rd w w.heap.size A n c l) : Rd w.drew w.drew.heap.size A n c l := h
theorem Si.add {X Y : Int} {k : Nat} (h : Si X k) (h2 : Si Y k) : Si (X + Y) (k + 1) := (Sm.add h h2).le (by omega)
theorem Si.mul {X Y : Int} {j k : Nat} (h : Si X j) (h2 : Si Y k) : Si (X * Y) (j + k) := by unfold Si; rw [Int.natAbs_mul]; exact Sm.mul h h2
theorem Si.mono {X : Int} {j k : Nat} (h : Si X j) (hk : j ≤ k) : Si X k := Sm.mono h hk
theorem zi_add (b : Bool) (N M : Nat) : zi b N + zi b M = zi b (N + M) := by unfold zi; split <;> omega
theorem zi_sub (b : Bool) {N M : Nat} (h : M ≤ N) : zi b N + zi (!b) M = zi b (N - M) := by unfold zi; cases b <;> simp <;> omega
theorem zi_sub' (b : Bool) {N M : Nat} (h : N < M) : zi b N + zi (!b) M = zi (!b) (M - N) := by unfold zi; cases b <;> simp <;> omega
theorem zi_mul (b d : Bool) (N M : Nat) : zi b N * zi d M = zi (b != d) (N * M) := by unfold zi; cases b <;> cases d <;> simp [Int.neg_mul, Int.mul_neg]
theorem zi_not (b : Bool) (N : Nat) : zi (!b) N = - zi b N := by unfold zi; cases b <;> simp
/-- The sign of an integer. -/
def sgnI (X : Int) : Int := if X < 0 then -1 else if X = 0 then 0 else 1
def eqB (X Y : Int) : Bool := decide (X = Y)
theorem eqB_of {X Y : Int} (h : X = Y) : eqB X Y = true := by simp [eqB, h]

set_option maxRecDepth 100000 in
set_option maxHeartbeats 1000000 in
theorem ZNorm_any {b : Bool} {A : Option Addr} {n c : Nat} {X : Int} {j : Nat} {w : World} (h : Zr w b A n c X j) (k : Nat) (hk : j ≤ k) :
    Calls Tryd.prog 88 #[.agg #[.bool b, .slice A n c]] w (OutZ w X k) := by
  obtain ⟨l, h, rfl, hn⟩ := h
  have hs := (Sm.of h hn).mono hk
  generalize hN : vl Wd l = N at *
  have HN := Lib.hid hN; clear hN
  go_enter Tryd.func88, Tryd.ntmps88
  go_wp2_with fail
  obtain ⟨hb, x_a, x_r⟩ := box2 w b A n c false none 0 0
  generalize (w.alloc (.cells #[.bool b, .slice A n c] 24)).alloc (.cells #[.bool false, .slice none 0 0] 24) = v1 at *
  replace h := h.go hb
  have q_a0 := x_a.c0; have q_a1 := x_a.c1; have f_a0 := x_a.fr 0; have f_a1 := x_a.fr 1
  have q_r0 := x_r.c0; have q_r1 := x_r.c1; have f_r0 := x_r.fr 0; have f_r1 := x_r.fr 1
  go_wp2_with fail
  go_region_held3 (fun w' => w'.cell? ⟨w.heap.size, 0, none⟩ = some (.bool b) ∧ w'.cell? ⟨w.heap.size, 1, none⟩ = some (.slice A n c))
    (first | (with_reducible exact ⟨x_a.c0, x_a.c1⟩) | (with_reducible exact ⟨(x_a.aside (by omega)).c0, (x_a.aside (by omega)).c1⟩) | (with_reducible exact ⟨((x_a.aside (by omega)).aside (by omega)).c0, ((x_a.aside (by omega)).aside (by omega)).c1⟩) | go_keep)
    (first | (go_at_call 71; (with_reducible refine (Norm_any _ _ _ l _ _ h.drw (Nat.le_refl _)).mono ?_); rintro e v2 ⟨A1, n1, c1, rfl, g1, hb1⟩; replace hb1 := undrew hb1; replace x_a := x_a.keep hb1; replace x_r := x_r.keep hb1; replace h := h.go hb1; replace hb := bthen hb hb1; clear hb1; replace q_a0 := x_a.c0; replace q_a1 := x_a.c1; replace f_a0 := x_a.fr 0; replace f_a1 := x_a.fr 1; replace q_r0 := x_r.c0; replace q_r1 := x_r.c1; replace f_r0 := x_r.fr 0; replace f_r1 := x_r.fr 1; rw [HN.out] at g1) | (go_at_call 66; (with_reducible refine (signed_any b A1 n1 c1 N _ k g1 hs).mono ?_); rintro e v3 ⟨rfl, z1, hb1⟩; replace x_a := x_a.keep hb1; replace x_r := x_r.keep hb1; replace h := h.go hb1; replace g1 := g1.go hb1; replace hb := bthen hb hb1; clear hb1; replace q_a0 := x_a.c0; replace q_a1 := x_a.c1; replace f_a0 := x_a.fr 0; replace f_a1 := x_a.fr 1; replace q_r0 := x_r.c0; replace q_r1 := x_r.c1; replace f_r0 := x_r.fr 0; replace f_r1 := x_r.fr 1))
  go_wp2
  replace x_a := x_a.aside (b' := (ngB (zi b N))) (A' := A1) (n' := n1) (c' := c1) (g := w.heap.size + 1) (by omega)
  replace h := h.sput (b' := (ngB (zi b N))) (A' := A1) (n' := n1) (c' := c1) x_r
  replace g1 := g1.sput (b' := (ngB (zi b N))) (A' := A1) (n' := n1) (c' := c1) x_r
  replace z1 := z1.put (b' := (ngB (zi b N))) (A' := A1) (n' := n1) (c' := c1) x_r
  replace hb := put_below (g := w.heap.size + 1) hb (by omega) (.bool (ngB (zi b N))) (.slice A1 n1 c1)
  replace x_r := x_r.put (ngB (zi b N)) A1 n1 c1
  clear q_a0 q_a1 f_a0 f_a1 q_r0 q_r1 f_r0 f_r1
  generalize (v3.setCell ⟨w.heap.size + 1, 0, none⟩ (.bool (ngB (zi b N)))).setCell ⟨w.heap.size + 1, 1, none⟩ (.slice A1 n1 c1) = v4 at *
  have q_a0 := x_a.c0; have q_a1 := x_a.c1; have f_a0 := x_a.fr 0; have f_a1 := x_a.fr 1
  have q_r0 := x_r.c0; have q_r1 := x_r.c1; have f_r0 := x_r.fr 0; have f_r1 := x_r.fr 1
  refine bodyPost_ret (v := .agg #[.bool (ngB (zi b N)), .slice A1 n1 c1]) (by simp [results, Tryd.results88, go_sem, q_r0, q_r1]) rfl ?_
  exact ⟨_, _, _, rfl, z1, hb⟩

theorem sgnI_zero (b : Bool) : sgnI (zi b 0) = 0 := by unfold sgnI zi; cases b <;> simp
theorem sgnI_pos {N : Nat} (h : 0 < N) : sgnI (zi false N) = 1 := by unfold sgnI zi; simp; omega
theorem sgnI_neg {N : Nat} (h : 0 < N) : sgnI (zi true N) = -1 := by unfold sgnI zi; simp; omega
theorem sgnI_lt {X Y : Int} (h : sgnI X < sgnI Y) : sgnI (X - Y) = -1 := by
  unfold sgnI at *
  by_cases a : X < 0 <;> by_cases b : X = 0 <;> by_cases c : Y < 0 <;> by_cases d : Y = 0 <;> simp [a, b, c, d] at h ⊢ <;> omega
theorem sgnI_gt {X Y : Int} (h : sgnI Y < sgnI X) : sgnI (X - Y) = 1 := by
  unfold sgnI at *
  by_cases a : X < 0 <;> by_cases b : X = 0 <;> by_cases c : Y < 0 <;> by_cases d : Y = 0 <;> simp [a, b, c, d] at h ⊢ <;> omega
theorem sgnI_is (X : Int) : -1 ≤ sgnI X ∧ sgnI X ≤ 1 := by unfold sgnI; split <;> (try split) <;> omega
theorem sgnI_lt0 {X : Int} : sgnI X < 0 ↔ X < 0 := by unfold sgnI; split <;> (try split) <;> omega
theorem sgnI_eq0 {X : Int} : sgnI X = 0 ↔ X = 0 := by unfold sgnI; split <;> (try split) <;> omega
theorem sgnI_gt0 {X : Int} : 0 < sgnI X ↔ 0 < X := by unfold sgnI; split <;> (try split) <;> omega
theorem cmp_sgn (N M : Nat) : cmpI N M = sgnI ((N : Int) - M) := by unfold cmpI sgnI; split <;> split <;> (try split) <;> (try split) <;> omega
theorem zi_neg {b : Bool} {N : Nat} (h : zi b N < 0) : zi b N = -(N : Int) := by unfold zi at *; split <;> simp_all <;> omega
theorem zi_nn {b : Bool} {N : Nat} (h : 0 ≤ zi b N) : zi b N = N := by unfold zi at *; split <;> simp_all <;> omega
theorem lay1 (w : World) (x : Int) (hx : Lm x) : Rd (w.alloc (.cells #[.int .u64 x] 31)) (w.alloc (.cells #[.int .u64 x] 31)).heap.size (some ⟨w.heap.size, 0, none⟩) 1 1 [x] :=
  (one_rd hx (by simp)).more (by simp)
theorem bl_pos {N : Nat} (h : 0 < N) : 0 < bl N := bl_ge (k := 0) (by rw [Nat.pow_zero]; exact h)
theorem bl_bound {l : List Int} {N n : Nat} (hl : Lim Wd l) (hn : l.length = n) (hN : vl Wd l = N) : bl N ≤ 64 * n := by
  subst hN hn
  exact bl_le (by have := vl_lt hl; rw [Wd_pow_k] at this; exact this)

set_option maxRecDepth 100000 in
set_option maxHeartbeats 1000000 in
theorem ZBitLen_any {b : Bool} {A : Option Addr} {n c : Nat} {X : Int} {j : Nat} {w : World} (h : Zr w b A n c X j) :
    Calls Tryd.prog 48 #[.agg #[.bool b, .slice A n c]] w fun e w' => e = .returned (.int .i64 (bl X.natAbs)) ∧ Below w.heap.size w w' := by
  obtain ⟨l, h, rfl, hn⟩ := h
  rw [zi_abs]
  go_enter Tryd.func48, Tryd.ntmps48
  go_wp2_with fail
  obtain ⟨hb, x_a⟩ := box1 w b A n c
  generalize w.alloc (.cells #[.bool b, .slice A n c] 24) = v1 at *
  replace h := h.go hb
  have q_a0 := x_a.c0; have q_a1 := x_a.c1; have f_a0 := x_a.fr 0; have f_a1 := x_a.fr 1
  go_wp2_with fail
  refine (BitLen_any _ _ _ _ _ _ h).mono ?_
  rintro e w' ⟨rfl, rfl⟩
  go_wp2
  go_ret
  exact ⟨rfl, hb⟩

set_option maxRecDepth 100000 in
set_option maxHeartbeats 1000000 in
theorem ZSign_any {b : Bool} {A : Option Addr} {n c : Nat} {X : Int} {j : Nat} {w : World} (h : Zr w b A n c X j) (hj : j ≤ 1000000) :
    Calls Tryd.prog 40 #[.agg #[.bool b, .slice A n c]] w fun e w' => e = .returned (.int .i64 (sgnI X)) ∧ Below w.heap.size w w' := by
  obtain ⟨l, h, rfl, hn⟩ := h
  have hbl := bl_bound h.lim h.len rfl
  generalize hN : vl Wd l = N at *
  have HN := Lib.hid hN; clear hN
  rcases Nat.eq_zero_or_pos N with h0 | h0
  · subst h0
    go_enter Tryd.func40, Tryd.ntmps40
    go_wp2_with fail
    obtain ⟨hb, x_a⟩ := box1 w b A n c
    generalize w.alloc (.cells #[.bool b, .slice A n c] 24) = v1 at *
    replace h := h.go hb
    have q_a0 := x_a.c0; have q_a1 := x_a.c1; have f_a0 := x_a.fr 0; have f_a1 := x_a.fr 1
    go_wp2_with fail
    refine (BitLen_any _ _ _ _ _ _ h).mono ?_
    rintro e w' ⟨rfl, rfl⟩
    rw [HN.out, bl_zero]
    go_wp2
    go_ret
    exact ⟨ret_i64 (sgnI_zero _).symm, hb⟩
  · have hp := bl_pos h0
    have hp0 : ((bl N : Int) == 0) = false := by simp; omega
    generalize hβ : bl N = β at *
    have HB := Lib.hid hβ; clear hβ
    cases b
    · have hv := sgnI_pos h0
      have HV := Lib.hid hv; clear hv
      go_enter Tryd.func40, Tryd.ntmps40
      go_wp2_with fail
      obtain ⟨hb, x_a⟩ := box1 w false A n c
      generalize w.alloc (.cells #[.bool false, .slice A n c] 24) = v1 at *
      replace h := h.go hb
      have q_a0 := x_a.c0; have q_a1 := x_a.c1; have f_a0 := x_a.fr 0; have f_a1 := x_a.fr 1
      go_wp2_with fail
      refine (BitLen_any _ _ _ _ _ _ h).mono ?_
      rintro e w' ⟨rfl, rfl⟩
      rw [HN.out, HB.out]
      go_wp2
      go_ret
      exact ⟨ret_i64 HV.out.symm, hb⟩
    · have hv := sgnI_neg h0
      have HV := Lib.hid hv; clear hv
      go_enter Tryd.func40, Tryd.ntmps40
      go_wp2_with fail
      obtain ⟨hb, x_a⟩ := box1 w true A n c
      generalize w.alloc (.cells #[.bool true, .slice A n c] 24) = v1 at *
      replace h := h.go hb
      have q_a0 := x_a.c0; have q_a1 := x_a.c1; have f_a0 := x_a.fr 0; have f_a1 := x_a.fr 1
      go_wp2_with fail
      refine (BitLen_any _ _ _ _ _ _ h).mono ?_
      rintro e w' ⟨rfl, rfl⟩
      rw [HN.out, HB.out]
      go_wp2
      go_ret
      exact ⟨ret_i64 HV.out.symm, hb⟩

set_option maxRecDepth 100000 in
set_option maxHeartbeats 2000000 in
theorem ZCmp_any {b b2 : Bool} {A A2 : Option Addr} {n c n2 c2 : Nat} {X Y : Int} {j j2 : Nat} {w : World} (h : Zr w b A n c X j) (h2 : Zr w b2 A2 n2 c2 Y j2) (hj : j ≤ 1000000) (hj2 : j2 ≤ 1000000) :
    Calls Tryd.prog 41 #[.agg #[.bool b, .slice A n c], .agg #[.bool b2, .slice A2 n2 c2]] w fun e w' => e = .returned (.int .i64 (sgnI (X - Y))) ∧ Below w.heap.size w w' := by
  have hx := sgnI_is X
  have hy := sgnI_is Y
  go_enter Tryd.func41, Tryd.ntmps41
  go_wp2
  obtain ⟨hb, x_a, x_b⟩ := box2 w b A n c b2 A2 n2 c2
  generalize (w.alloc (.cells #[.bool b, .slice A n c] 24)).alloc (.cells #[.bool b2, .slice A2 n2 c2] 24) = v1 at *
  replace h := h.keep hb
  replace h2 := h2.keep hb
  have q_a0 := x_a.c0; have q_a1 := x_a.c1; have f_a0 := x_a.fr 0; have f_a1 := x_a.fr 1
  have q_b0 := x_b.c0; have q_b1 := x_b.c1; have f_b0 := x_b.fr 0; have f_b1 := x_b.fr 1
  go_region_held3 (fun w' => w'.cell? ⟨w.heap.size, 0, none⟩ = some (.bool b) ∧ w'.cell? ⟨w.heap.size, 1, none⟩ = some (.slice A n c) ∧ w'.cell? ⟨w.heap.size + 1, 0, none⟩ = some (.bool b2) ∧ w'.cell? ⟨w.heap.size + 1, 1, none⟩ = some (.slice A2 n2 c2))
    (first | (with_reducible exact ⟨x_a.c0, x_a.c1, x_b.c0, x_b.c1⟩) | (with_reducible exact ⟨(x_a.aside (by omega)).c0, (x_a.aside (by omega)).c1, (x_b.aside (by omega)).c0, (x_b.aside (by omega)).c1⟩) | (with_reducible exact ⟨((x_a.aside (by omega)).aside (by omega)).c0, ((x_a.aside (by omega)).aside (by omega)).c1, ((x_b.aside (by omega)).aside (by omega)).c0, ((x_b.aside (by omega)).aside (by omega)).c1⟩) | go_keep)
    (first | (go_at_call 40; (with_reducible refine (ZSign_any h.drw hj).mono ?_); rintro e v2 ⟨rfl, hb1⟩; replace hb1 := undrew hb1; replace x_a := x_a.keep hb1; replace x_b := x_b.keep hb1; replace h := h.keep hb1; replace h2 := h2.keep hb1; replace hb := bthen hb hb1; clear hb1; replace q_a0 := x_a.c0; replace q_a1 := x_a.c1; replace f_a0 := x_a.fr 0; replace f_a1 := x_a.fr 1; replace q_b0 := x_b.c0; replace q_b1 := x_b.c1; replace f_b0 := x_b.fr 0; replace f_b1 := x_b.fr 1) | (go_at_call 40; (with_reducible refine (ZSign_any h2 hj2).mono ?_); rintro e v3 ⟨rfl, hb1⟩; replace x_a := x_a.keep hb1; replace x_b := x_b.keep hb1; replace h := h.keep hb1; replace h2 := h2.keep hb1; replace hb := bthen hb hb1; clear hb1; replace q_a0 := x_a.c0; replace q_a1 := x_a.c1; replace f_a0 := x_a.fr 0; replace f_a1 := x_a.fr 1; replace q_b0 := x_b.c0; replace q_b1 := x_b.c1; replace f_b0 := x_b.fr 0; replace f_b1 := x_b.fr 1))
  by_cases hlt : sgnI X < sgnI Y
  · have HV := Lib.hid (sgnI_lt hlt)
    generalize sgnI X = s at *
    generalize sgnI Y = t at *
    go_wp2
    go_ret
    exact ⟨ret_i64 HV.out.symm, hb⟩
  · by_cases hgt : sgnI Y < sgnI X
    · have HV := Lib.hid (sgnI_gt hgt)
      generalize sgnI X = s at *
      generalize sgnI Y = t at *
      go_wp2
      go_ret
      exact ⟨ret_i64 HV.out.symm, hb⟩
    · obtain ⟨l, g, rfl, hn⟩ := h
      obtain ⟨m, g2, rfl, hn2⟩ := h2
      by_cases h0 : sgnI (zi b (vl Wd l)) < 0
      · have e1 := zi_neg (sgnI_lt0.1 h0)
        have e2 := zi_neg (sgnI_lt0.1 (show sgnI (zi b2 (vl Wd m)) < 0 by omega))
        have HV : Hid (cmpI (vl Wd m) (vl Wd l) = sgnI (zi b (vl Wd l) - zi b2 (vl Wd m))) := by show _ = _; rw [cmp_sgn, e1, e2]; congr 1; omega
        clear e1 e2
        generalize sgnI (zi b (vl Wd l)) = s at *
        generalize sgnI (zi b2 (vl Wd m)) = t at *
        go_wp2_with fail
        refine (Cmp_any _ _ _ _ _ _ _ _ _ _ g2 g).mono ?_
        rintro e v9 ⟨rfl, hq⟩
        rw [HV.out]
        go_wp2
        go_ret
        exact ⟨rfl, bthen hb hq.below⟩
      · have e1 := zi_nn (show 0 ≤ zi b (vl Wd l) by have := mt sgnI_lt0.2 h0; omega)
        have e2 := zi_nn (show 0 ≤ zi b2 (vl Wd m) by have := mt (sgnI_lt0 (X := zi b2 (vl Wd m))).2 (by omega); omega)
        have HV : Hid (cmpI (vl Wd l) (vl Wd m) = sgnI (zi b (vl Wd l) - zi b2 (vl Wd m))) := by show _ = _; rw [cmp_sgn, e1, e2]
        clear e1 e2
        generalize sgnI (zi b (vl Wd l)) = s at *
        generalize sgnI (zi b2 (vl Wd m)) = t at *
        go_wp2_with fail
        refine (Cmp_any _ _ _ _ _ _ _ _ _ _ g g2).mono ?_
        rintro e v9 ⟨rfl, hq⟩
        rw [HV.out]
        go_wp2
        go_ret
        exact ⟨rfl, bthen hb hq.below⟩

end Go.Proofs.YtcoidcbbdibnaaaDoor
