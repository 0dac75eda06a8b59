/-
  The document's answer for zed: Sign, Cmp, Same, BitLen, Shl, Shr.
-/
import Derived.Test.YtcoidcbbdibnaaaZref2
import Derived.Test.YtcoidcbbdibnaaaRshr
namespace Go.Proofs.Ytcoidcbbdibnaaa
open Go.RowKit
set_option linter.unusedVariables false

theorem sgnI_m {X : Int} (h : X < 0) : sgnI X = -1 := by unfold sgnI; rw [if_pos h]
theorem sgnI_z {X : Int} (h : X = 0) : sgnI X = 0 := by unfold sgnI; rw [if_neg (by omega), if_pos h]
theorem sgnI_p {X : Int} (h : 0 < X) : sgnI X = 1 := by unfold sgnI; rw [if_neg (by omega), if_neg (by omega)]
theorem ngB_pos {X : Int} (h : 0 < X) : ngB X = false := by unfold ngB; simp; omega
theorem ngB_neg {X : Int} (h : X < 0) : ngB X = true := by unfold ngB; simpa using h
theorem zn_len {w : World} {A : Option Addr} {n c k : Nat} {X : Int} (h : Zn w A n c X k) : (X = 0 → n = 0) ∧ (X ≠ 0 → 0 < n) :=
  ⟨fun h0 => rd_zero h.1 (by omega), fun h0 => rd_pos h.1 (by omega)⟩

set_option maxRecDepth 100000 in
set_option maxHeartbeats 2000000 in
theorem RSignZ_any {b : Bool} {A : Option Addr} {n c : Nat} {X : Int} {j : Nat} {w : World} (h : Zr w b A n c X j) (hj : j ≤ 100000) :
    Calls Try.prog 14 #[.agg #[.bool b, .slice A n c]] w fun e w' => e = .returned (.int .i64 (sgnI X)) ∧ Below w.heap.size w w' := by
  rcases Int.lt_trichotomy X 0 with h0 | h0 | h0
  · have hv := sgnI_m h0
    have HV := Lib.hid hv; clear hv
    have hnb : ngB X = true := ngB_neg h0
    have HNB := Lib.hid hnb; clear hnb
    go_enter Try.func14, Try.ntmps14
    go_wp2_with fail
    obtain ⟨hb, x_a⟩ := box1 w b A n c
    generalize w.alloc (.cells #[.bool b, .slice A n c] 24) = v1 at *
    replace h := h.keep hb
    have q_a0 := x_a.c0; have q_a1 := x_a.c1; have f_a0 := x_a.fr 0; have f_a1 := x_a.fr 1
    go_wp2_with fail
    with_reducible refine (RNormZ_any h j (Nat.le_refl _) (by omega)).mono ?_
    rintro e v2 ⟨A1, n1, c1, rfl, z1, hb1⟩
    replace x_a := x_a.keep hb1
    replace h := h.keep hb1
    replace hb := bthen hb hb1
    clear hb1
    replace q_a0 := x_a.c0; replace q_a1 := x_a.c1; replace f_a0 := x_a.fr 0; replace f_a1 := x_a.fr 1
    have hl := zn_len z1
    rw [HNB.out]
    have hp := hl.2 (by omega)
    have hp0 : ((n1 : Int) == 0) = false := by simp; omega
    clear hl h0
    go_wp2
    go_ret
    exact ⟨ret_i64 HV.out.symm, put_below hb (by omega) _ _⟩
  · have hv := sgnI_z h0
    have HV := Lib.hid hv; clear hv
    have hnb : ngB X = false := by subst h0; rfl
    have HNB := Lib.hid hnb; clear hnb
    go_enter Try.func14, Try.ntmps14
    go_wp2_with fail
    obtain ⟨hb, x_a⟩ := box1 w b A n c
    generalize w.alloc (.cells #[.bool b, .slice A n c] 24) = v1 at *
    replace h := h.keep hb
    have q_a0 := x_a.c0; have q_a1 := x_a.c1; have f_a0 := x_a.fr 0; have f_a1 := x_a.fr 1
    go_wp2_with fail
    with_reducible refine (RNormZ_any h j (Nat.le_refl _) (by omega)).mono ?_
    rintro e v2 ⟨A1, n1, c1, rfl, z1, hb1⟩
    replace x_a := x_a.keep hb1
    replace h := h.keep hb1
    replace hb := bthen hb hb1
    clear hb1
    replace q_a0 := x_a.c0; replace q_a1 := x_a.c1; replace f_a0 := x_a.fr 0; replace f_a1 := x_a.fr 1
    have hl := zn_len z1
    rw [HNB.out]
    obtain rfl := hl.1 h0
    clear hl h0
    go_wp2
    go_ret
    exact ⟨ret_i64 HV.out.symm, put_below hb (by omega) _ _⟩
  · have hv := sgnI_p h0
    have HV := Lib.hid hv; clear hv
    have hnb : ngB X = false := ngB_pos h0
    have HNB := Lib.hid hnb; clear hnb
    go_enter Try.func14, Try.ntmps14
    go_wp2_with fail
    obtain ⟨hb, x_a⟩ := box1 w b A n c
    generalize w.alloc (.cells #[.bool b, .slice A n c] 24) = v1 at *
    replace h := h.keep hb
    have q_a0 := x_a.c0; have q_a1 := x_a.c1; have f_a0 := x_a.fr 0; have f_a1 := x_a.fr 1
    go_wp2_with fail
    with_reducible refine (RNormZ_any h j (Nat.le_refl _) (by omega)).mono ?_
    rintro e v2 ⟨A1, n1, c1, rfl, z1, hb1⟩
    replace x_a := x_a.keep hb1
    replace h := h.keep hb1
    replace hb := bthen hb hb1
    clear hb1
    replace q_a0 := x_a.c0; replace q_a1 := x_a.c1; replace f_a0 := x_a.fr 0; replace f_a1 := x_a.fr 1
    have hl := zn_len z1
    rw [HNB.out]
    have hp := hl.2 (by omega)
    have hp0 : ((n1 : Int) == 0) = false := by simp; omega
    clear hl h0
    go_wp2
    go_ret
    exact ⟨ret_i64 HV.out.symm, put_below hb (by omega) _ _⟩

set_option maxRecDepth 100000 in
set_option maxHeartbeats 2000000 in
theorem RCmpZ_any {b b2 : Bool} {A A2 : Option Addr} {n c n2 c2 : Nat} {X Y : Int} {j j2 : Nat} {w : World} (h : Zr w b A n c X j) (h2 : Zr w b2 A2 n2 c2 Y j2) (k : Nat) (hk : j + 1 ≤ k) (hk2 : j2 + 1 ≤ k) (hj : k ≤ 100000) :
    Calls Try.prog 16 #[.agg #[.bool b, .slice A n c], .agg #[.bool b2, .slice A2 n2 c2]] w fun e w' => e = .returned (.int .i64 (sgnI (X - Y))) ∧ Below w.heap.size w w' := by
  go_enter Try.func16, Try.ntmps16
  go_wp2_with fail
  obtain ⟨hb, x_a, x_b⟩ := box2 w b A n c b2 A2 n2 c2
  generalize (w.alloc (.cells #[.bool b, .slice A n c] 24)).alloc (.cells #[.bool b2, .slice A2 n2 c2] 24) = v1 at *
  replace h := h.keep hb
  replace h2 := h2.keep hb
  have q_a0 := x_a.c0; have q_a1 := x_a.c1; have f_a0 := x_a.fr 0; have f_a1 := x_a.fr 1
  have q_b0 := x_b.c0; have q_b1 := x_b.c1; have f_b0 := x_b.fr 0; have f_b1 := x_b.fr 1
  go_wp2_with fail
  with_reducible refine (RSubZ_any h h2 k hk hk2 hj).mono ?_
  rintro e v2 ⟨A1, n1, c1, rfl, z1, hb1⟩
  replace x_a := x_a.keep hb1
  replace x_b := x_b.keep hb1
  replace h := h.keep hb1
  replace h2 := h2.keep hb1
  replace hb := bthen hb hb1
  clear hb1
  replace q_a0 := x_a.c0; replace q_a1 := x_a.c1; replace f_a0 := x_a.fr 0; replace f_a1 := x_a.fr 1
  replace q_b0 := x_b.c0; replace q_b1 := x_b.c1; replace f_b0 := x_b.fr 0; replace f_b1 := x_b.fr 1
  go_wp2_with fail
  with_reducible refine (RSignZ_any z1.zr hj).mono ?_
  rintro e v3 ⟨rfl, hb1⟩
  replace x_a := x_a.keep hb1
  replace x_b := x_b.keep hb1
  replace h := h.keep hb1
  replace h2 := h2.keep hb1
  replace z1 := z1.keep hb1
  replace hb := bthen hb hb1
  clear hb1
  replace q_a0 := x_a.c0; replace q_a1 := x_a.c1; replace f_a0 := x_a.fr 0; replace f_a1 := x_a.fr 1
  replace q_b0 := x_b.c0; replace q_b1 := x_b.c1; replace f_b0 := x_b.fr 0; replace f_b1 := x_b.fr 1
  go_wp2
  go_ret
  exact ⟨rfl, hb⟩

set_option maxRecDepth 100000 in
set_option maxHeartbeats 2000000 in
theorem RSameZ_any {b b2 : Bool} {A A2 : Option Addr} {n c n2 c2 : Nat} {X Y : Int} {j j2 : Nat} {w : World} (h : Zr w b A n c X j) (h2 : Zr w b2 A2 n2 c2 Y j2) (k : Nat) (hk : j + 1 ≤ k) (hk2 : j2 + 1 ≤ k) (hj : k ≤ 100000) :
    Calls Try.prog 18 #[.agg #[.bool b, .slice A n c], .agg #[.bool b2, .slice A2 n2 c2]] w fun e w' => e = .returned (.bool (eqB X Y)) ∧ Below w.heap.size w w' := by
  go_enter Try.func18, Try.ntmps18
  go_wp2_with fail
  obtain ⟨hb, x_a, x_b⟩ := box2 w b A n c b2 A2 n2 c2
  generalize (w.alloc (.cells #[.bool b, .slice A n c] 24)).alloc (.cells #[.bool b2, .slice A2 n2 c2] 24) = v1 at *
  replace h := h.keep hb
  replace h2 := h2.keep hb
  have q_a0 := x_a.c0; have q_a1 := x_a.c1; have f_a0 := x_a.fr 0; have f_a1 := x_a.fr 1
  have q_b0 := x_b.c0; have q_b1 := x_b.c1; have f_b0 := x_b.fr 0; have f_b1 := x_b.fr 1
  go_wp2_with fail
  with_reducible refine (RCmpZ_any h h2 k hk hk2 hj).mono ?_
  rintro e v2 ⟨rfl, hb1⟩
  replace x_a := x_a.keep hb1
  replace x_b := x_b.keep hb1
  replace h := h.keep hb1
  replace h2 := h2.keep hb1
  replace hb := bthen hb hb1
  clear hb1
  replace q_a0 := x_a.c0; replace q_a1 := x_a.c1; replace f_a0 := x_a.fr 0; replace f_a1 := x_a.fr 1
  replace q_b0 := x_b.c0; replace q_b1 := x_b.c1; replace f_b0 := x_b.fr 0; replace f_b1 := x_b.fr 1
  go_wp2
  go_ret
  exact ⟨ret_bool (by unfold eqB; rw [Bool.eq_iff_iff]; simp [sgnI_eq0]; omega), hb⟩

set_option maxRecDepth 100000 in
set_option maxHeartbeats 1000000 in
theorem RBitLenZ_any {b : Bool} {A : Option Addr} {n c : Nat} {X : Int} {j : Nat} {w : World} (h : Zr w b A n c X j) (hj : j ≤ 100000) :
    Calls Try.prog 20 #[.agg #[.bool b, .slice A n c]] w fun e w' => e = .returned (.int .i64 (bl X.natAbs)) ∧ Below w.heap.size w w' := by
  obtain ⟨l, h, rfl, hn⟩ := h
  rw [zi_abs]
  go_enter Try.func20, Try.ntmps20
  go_wp2_with fail
  obtain ⟨hb, x_a⟩ := box1 w b A n c
  generalize w.alloc (.cells #[.bool b, .slice A n c] 24) = v1 at *
  replace h := h.go hb
  have q_a0 := x_a.c0; have q_a1 := x_a.c1; have f_a0 := x_a.fr 0; have f_a1 := x_a.fr 1
  go_wp2_with fail
  with_reducible refine (RBitLen_any _ _ _ _ _ h (by omega)).mono ?_
  rintro e v2 ⟨rfl, hb1⟩
  replace x_a := x_a.keep hb1
  replace h := h.go hb1
  replace hb := bthen hb hb1
  clear hb1
  replace q_a0 := x_a.c0; replace q_a1 := x_a.c1; replace f_a0 := x_a.fr 0; replace f_a1 := x_a.fr 1
  go_wp2
  go_ret
  exact ⟨rfl, hb⟩

theorem shr_up {N s : Nat} (h : 0 < N) : (-(N : Int)) / 2 ^ s = zi true ((N + (1 * 2 ^ s - 1)) / 2 ^ s) := by
  rw [shr_neg h]
  congr 1
  have hp : 0 < 2 ^ s := Nat.two_pow_pos s
  generalize 2 ^ s = d at *
  rw [show N + (1 * d - 1) = (N - 1) + d by omega, Nat.add_div_right _ hp]
end Go.Proofs.Ytcoidcbbdibnaaa
